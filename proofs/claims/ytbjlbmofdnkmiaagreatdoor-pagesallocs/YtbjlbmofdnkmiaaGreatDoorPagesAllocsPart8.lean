/-
  OWN TEXTS.
-/
import Derived.Test.YtbjlbmofdnkmiaaGreatDoorPagesAllocsPart7
set_option maxRecDepth 10000
set_option maxHeartbeats 4000000
namespace Go.Proofs.YtbjlbmofdnkmiaaGreatDoor
open Go Go.RowKit Go.Proofs.YtbjlbmofdnkmiaaGreatDoor.Kit
structure AwayF (b : Nat) (y : Hx) : Prop where
 f : ∀ z ∈ y.zs, 0 < z.z.free.length → ∀ a, z.fo = some a → a.block ≠ b
 t : ∀ z ∈ y.zs, 0 < z.z.types.length → ∀ a, z.to_ = some a → a.block ≠ b
theorem AwayF.setZ {b i : Nat} {y : Hx} {z : Zc} (h : AwayF b y) (h1 : ∀ a, z.fo = some a → a.block ≠ b) (h2 : ∀ a, z.to_ = some a → a.block ≠ b) : AwayF b (y.setZ i z) := by
 refine ⟨fun c hc h0 => ?_, fun c hc h0 => ?_⟩ <;> rcases List.mem_or_eq_of_mem_set hc with hc | rfl
 ·exact h.f c hc h0
 ·exact h1
 ·exact h.t c hc h0
 exact h2
theorem pBackF_ok (w : World) (B gz hbk : Nat) (y : Hx) (p o : Int) (rh : w.heap[hbk]? = some (.cells #[.slice y.zo y.zn y.zc, .slice y.mo y.mn y.mc, .int .i64 y.cpus, .slice y.lo y.ln y.lc, .slice y.vo y.vn y.vc] 27 (0, 0))) (HY : HZ w B gz y) (hne : hbk ≠ gz) (hc : CanBack y.hp p o) :
    Calls Tryz.prog 66 #[.pointer (some ⟨hbk, 0, none⟩), .int .i64 p, .int .i64 o] w fun e w' => e = .returned (.int .i64 0) ∧ ∃ z, z.z = backZ (y.zs.getD (zIdx y.hp p) .zero).z p o ∧ HZ w' B gz (y.setZ (zIdx y.hp p) z) ∧ But gz w w' ∧ (∀ b, b < w.heap.size → AwayF b y → AwayF b (y.setZ (zIdx y.hp p) z)) := by
 have HY0 := HY.at_
 have hin : zIdx y.hp p < y.zn := by have := zIdx_lt y.hp p; have e : y.hp.zones.length = y.zs.length := (by show (y.zs.map _).length = _; rw [List.length_map]); have := hc.n; have := HY.at_.zones.len; omega
 have hzn : y.zn = 2 := by have e : y.hp.zones.length = y.zs.length := (by show (y.zs.map _).length = _; rw [List.length_map]); have := hc.n; have := HY.at_.zones.len; omega
 have hgz : gz < w.heap.size := HY.lt (by omega)
 have hM := hc.m
 have hA := hc.i
 have hv := hc.v
 rw [hp_zone] at hM hA hv
 have hrl := row_lt rh
 obtain ⟨i, hi⟩ : ∃ i, zIdx y.hp p = i := ⟨_, rfl⟩
 rw [hi] at hin hM hA hv
 have ez := HY.ez
 obtain ⟨gi, oi, zi, foi, fni, fci, toi, tni, tci, hai, c0i, c1i, c2i, c3i, hati, hXi⟩ := HY.at_.zones.at (i) (by omega)
 replace c0i := St.of c0i; replace c1i := St.of c1i; replace c2i := St.of c2i; replace c3i := St.of c3i
 have hXe : (y.zs.getD i .zero).z = zi := by rw [hXi.out]
 rw [ez] at hai; simp only [Option.some.injEq, Addr.mk.injEq, and_true] at hai; obtain ⟨rfl, rfl⟩ := hai
 have B0 := Below.refl w.heap.size w
 refine sx_enter (args := [_, _, _]) 38 Tryz.func66 rfl rfl rfl ?_
 refine vS (vR (vla (h:=vW (vS (vR (vlm (h:=vli (h:=vl5 (rowq rh) (h:=vlm (h:=vlc (by have e := pZoneOf_c _ y p HY.at_ hzn; rw [hi] at e; exact e) (h:=?_))))))))))); intro W2 hb1; replace B0 := Below.next B0 hb1; replace HY := HY.below hb1; replace rh := row_next rh hb1
 refine vla (h:=vW (vS (vR (vlm (h:=vli (h:=vlf (h:=vl1 (rowq rh) (h:=vlm (h:=vlx (h:=vld (y_loadN (vs := [_, _, _, _]) rfl rfl (ag rfl) rfl ⟨(by first | assumption | exact St.q c0i B0 | exact St.q c1i B0 | exact St.q c2i B0 | exact St.q c3i B0), (by first | assumption | exact St.q c0i B0 | exact St.q c1i B0 | exact St.q c2i B0 | exact St.q c3i B0), (by first | assumption | exact St.q c0i B0 | exact St.q c1i B0 | exact St.q c2i B0 | exact St.q c3i B0), (by first | assumption | exact St.q c0i B0 | exact St.q c1i B0 | exact St.q c2i B0 | exact St.q c3i B0), trivial⟩) (h:=vlm (h:=vlm (h:=?_)))))))))))))
 have lz_hbk := row_lt rh
 intro A f
 refine l_call f rfl rfl rfl (IsCall.mk' (cap := []) rfl rfl rfl) (pl rfl) (zBack_ok _ _ _ _ _ _ _ zi p o (hati.below B0) (hXe ▸ hM) (hXe ▸ hA) (hXe ▸ hv)) ?_
 clear f A
 rintro _ W4 ⟨⟨fo2, fn2, fc2, to2, tn2, tc2, rfl, hz2, hf2, ht2⟩, hb3⟩
 refine ⟨_, rfl, ?_⟩
 have hg1 := B0.size
 intro A f
 replace B0 := Below.next B0 hb3; replace HY := HY.below hb3; replace rh := row_next rh hb3
 obtain ⟨Y, hY⟩ : ∃ Y, backZ zi p o = Y := ⟨_, rfl⟩
 rw [hY] at f hz2
 revert A; refine vlm (h:=vle (h:=vle (h:=?_))); intro A f
 refine l_as (z := .agg #[.int .i64 0, .int .i64 0, .slice none 0 0, .slice none 0 0]) f rfl rfl rfl rfl (by kernel_rfl) rfl rfl (fun _ => rfl) (fun _ => rfl) rfl (by intro u hu; simp [Value.cells] at hu; rcases hu with rfl | rfl | rfl | rfl <;> rfl) ?_; clear f A; intro b5 W6 eb5 hb7 rb5 A f
 dsimp only [Value.cells] at rb5
 have hpb5 := hb7
 have o_hbk_b5 : hbk < b5 := by have := row_lt rh; omega
 have z_B0_b5 := B0.size; rw [eb5] at z_B0_b5
 replace B0 := Below.next B0 hb7; replace HY := HY.below hb7; replace hz2 := hz2.below hb7; replace rh := row_next rh hb7
 revert A; refine vla (h:=vW (vS (vS (vR (vlm (h:=vlb (y_neq rfl rfl rfl) (h:=?_) (g:=?_)))))))
 ·intro c8; exfalso; omega
 intro c8
 refine vW (vD (h:=vK (vT (vS ?_))))
 have q_hbk := fun wx (h : But gz W6 wx) => But.row h rh (by omega)
 have q_b5 := fun wx (h : But gz W6 wx) => But.row h rb5 (by omega)
 have hSB : Below w.heap.size w W6 := B0
 intro A f
 refine sx_held (fun wx => But gz W6 wx) [7] (by kernel_rfl) (by kernel_rfl) (blind_then (blind_body)) (But.of_below ((Below.refl _ _).drew)) ?_
 generalize hWd : ({ W6 with drawn := W6.drawn + 1 } : World) = W9
 have hS := but_start gz hWd
 have hdr := drawn_b hWd
 clear hWd
 replace B0 := Below.next B0 hdr; replace HY := HY.below hdr; replace hz2 := hz2.below hdr; replace rh := row_next rh hdr; replace rb5 := row_next rb5 hdr
 revert A; refine vhm (h:=vhi (h:=vhf (h:=vh1 q_hbk (h:=vhm (h:=vh4 q_b5 (h:=vhx (h:=?_)))))))
 have oz := HY.oz
 intro A f
 rw [HY.ez] at oz
 refine h_storeR f rfl rfl rfl rfl rfl rfl (own_set4 oz hin (Zc.q ⟨Y, fo2, fn2, fc2, to2, tn2, tc2⟩) (Zc.one _) (sz rfl)) (fun _ h => hS.trans h.1) ?_
 rintro W10 ⟨hb11, ow⟩
 have HY2 := HY.set (i := i) (z := ⟨Y, fo2, fn2, fc2, to2, tn2, tc2⟩) hz2 (fun a ha e => by have := hf2 a ha; omega) (fun a ha e => by have := ht2 a ha; omega) hb11 (by rw [HY.ez]; exact ow)
 have hSf := hS.trans hb11
 revert A; refine vM (vT (vS (vR (vla (h:=vW (vE ?_)))))); intro A f
 refine x_ret1 f rfl rfl ?_
 exact ⟨rfl, ⟨Y, fo2, fn2, fc2, to2, tn2, tc2⟩, by rw [hi, hXe]; exact hY.symm, by rw [hi]; exact HY2, ((But.of_below hSB).trans hSf), fun (b : Nat) (hb : b < w.heap.size) (ha : AwayF b y) => AwayF.setZ (b := b) (z := ⟨Y, fo2, fn2, fc2, to2, tn2, tc2⟩) ha (fun a h => by have := hf2 a h; omega) (fun a h => by have := ht2 a h; omega)⟩
theorem pBackAllF_ok (w : World) (B gz hbk : Nat) (y : Hx) (po : Option Addr) (pn pc : Nat) (ps : List Int) (rh : w.heap[hbk]? = some (.cells #[.slice y.zo y.zn y.zc, .slice y.mo y.mn y.mc, .int .i64 y.cpus, .slice y.lo y.ln y.lc, .slice y.vo y.vn y.vc] 27 (0, 0))) (HY : HZ w B gz y) (hne : hbk ≠ gz) (hN : Nums w po pn ps) (hne2 : 0 < ps.length → ∀ a, po = some a → a.block ≠ gz) (hc : CanBacks y.hp ps) :
    Calls Tryz.prog 39 #[.pointer (some ⟨hbk, 0, none⟩), .slice po pn pc] w fun e w' => e = .returned (.int .i64 0) ∧ ∃ zs, (y.withZ zs).hp = backs y.hp ps ∧ HZ w' B gz (y.withZ zs) ∧ But gz w w' ∧ (∀ b, b < w.heap.size → AwayF b y → AwayF b (y.withZ zs)) := by
 have nr := hN.reach
 have B0 := Below.refl w.heap.size w
 refine sx_enter (args := [_, _]) 21 Tryz.func39 rfl rfl rfl ?_
 refine vS (vR (vla (h:=vW (vS (vS (vR (vlm (h:=vlz (h:=vlm (h:=vW (vB ?_))))))))))); intro A f
 refine x_loop (fun n A W => ∃ (k : Nat) (zs : List Zc), n = pn - k ∧ k ≤ pn ∧ Fr A 21 [(0, .pointer (some ⟨hbk, 0, none⟩)), (8, .slice po pn pc), (9, .int .i64 (pn : Nat)), (10, .int .i64 (k : Nat))] ∧ HZ W B gz (y.withZ zs) ∧ (y.withZ zs).hp = backs y.hp (ps.take k) ∧ But gz w W ∧ (∀ b, b < w.heap.size → AwayF b y → AwayF b (y.withZ zs))) (n0 := pn) (⟨0, y.zs, rfl, Nat.zero_le _, f.sub ⟨rfl, rfl, rfl, rfl, trivial⟩, HY.below B0, rfl, But.of_below B0, fun _ _ h => h⟩) ?_
 clear f A
 clear B0
 rintro n A W1 ⟨k, zs, hn, hk, f, HYk, hhp, hbt, haw⟩
 have BW := Below.refl W1.heap.size W1
 have hNk := nums_but hN hbt hne2
 have rhk := But.row hbt rh hne
 revert A; refine vS (vR (vlb (y_lss rfl rfl rfl) (h:=?_) (g:=?_)))
 ·intro c2
  refine vW (vS (vC (h:=vK (vT (vS (vB (vS (vR ?_))))))))
  obtain ⟨gg, og, vg, hag, c0g, hXg⟩ := hNk.at_.at (k) (by have := hNk.len; omega)
  replace c0g := St.of c0g
  intro A f
  rw [show og + k = og + k * 1 by omega] at c0g
  have hcb : CanBack (y.withZ zs).hp vg 0 := by rw [hhp]; exact canBacks_at hc (by have := hN.len; omega) hXg.out
  revert A; refine vlx (h:=vld (y_load1 rfl rfl (ag rfl) (by first | assumption | exact St.q c0g BW)) (h:=vla (h:=vW (vS (vR (vlm (h:=vlm (h:=?_)))))))); intro A f
  refine l_call f rfl rfl rfl (IsCall.mk' (cap := []) rfl rfl rfl) (pl rfl) (pBackF_ok _ B gz hbk (y.withZ zs) vg 0 (row_next rhk BW) (HYk.below BW) hne hcb) ?_
  clear f A
  rintro _ W3 ⟨rfl, zk, hzk, HY2, hb2, haw2⟩
  refine ⟨_, rfl, ?_⟩
  intro A f
  have hbt2 := hbt.trans hb2
  revert A; refine vla (h:=vW (vS (vR (vlm (h:=vlb (y_neq rfl rfl rfl) (h:=?_) (g:=?_))))))
  ·intro c4; exfalso; omega
  intro c4
  refine vW (vD (h:=vK (vU (vT (vR (vlA (h:=vlm (h:=vW ?_)))))))); intro A f
  exact ⟨pn - (k + 1), by omega, k + 1, _, rfl, by omega, f.sub ⟨rfl, rfl, rfl, rfl, trivial⟩, HY2, (setZ_hp hzk).trans (by rw [hhp, backs_take (by have := hN.len; omega) hXg.out]), hbt2, fun b hb h => haw2 b (by have := hbt.size; have := BW.size; omega) (haw b hb h)⟩
 intro c2
 refine vW (vS (vD (h:=vX (vH (vH (vI (vT (vS (vR (vla (h:=vW (vE ?_)))))))))))); intro A f
 refine x_ret1 f rfl rfl ?_
 exact ⟨rfl, zs, by rw [hhp, List.take_of_length_le (by have := hN.len; omega)], HYk, hbt, haw⟩
theorem nums_take {w : World} {ao : Option Addr} {n k : Nat} {xs : List Int} (h : Nums w ao n xs) (hk : k ≤ n) : Nums w ao k (xs.take k) := by
 have hl := h.len
 have hr := h.reach
 refine ⟨by rw [List.length_take]; omega, by omega, fun i hi => ?_⟩
 rw [List.length_take] at hi
 obtain ⟨b, o, e, hc⟩ := h.at_ i (by omega)
 refine ⟨b, o, e, ?_⟩
 rw [hc]
 simp only [List.getD_eq_getElem?_getD]
 rw [List.getElem?_take_of_lt (by omega)]
theorem bs_int1 (a : Int) (w : World) : (Instr.buildSlice 23 1 #[(0, .int .i64 a)]).run Tryz.prog w = .ok (.slice (some ⟨w.heap.size, 0, none⟩) 1 1) (w.alloc (.cells #[.int .i64 a] 3)) := by
 simp [go_sem]
theorem lss_mem {H : Hp} (h : LssOk H) {l : Ls} (hl : l ∈ H.lists) : LsOk H l := by
 obtain ⟨i, hi, rfl⟩ := List.getElem_of_mem hl
 have := h.ok i hi
 rwa [List.getD_eq_getElem?_getD, List.getElem?_eq_getElem hi] at this
theorem AwayL.toF {b : Nat} {y : Hx} (h : AwayL b y) : AwayF b y := ⟨h.f, h.t⟩
theorem awayF_old {w : World} {b : Nat} {y : Hx} (h : y.At w) (hb : w.heap.size ≤ b) : AwayF b y := (awayL_old h hb).toF
theorem awayL_withZ {b : Nat} {y : Hx} {zs : List Zc} (h : AwayL b y) (f : AwayF b (y.withZ zs)) (h0 : 0 < y.zs.length) : AwayL b (y.withZ zs) :=
 ⟨fun _ => h.z h0, f.f, f.t, h.m, h.p, h.v⟩
theorem awayF_away {b : Nat} {y : Hx} {zs : List Zc} (h : Away b y) (f : AwayF b (y.withZ zs)) : Away b (y.withZ zs) := ⟨f.f, f.t, h.m, h.l, h.p, h.v⟩
theorem away_withL {b : Nat} {y : Hx} {ls : List Lc} {lo : Option Addr} {ln lc : Nat} (h : Away b y) (hl : 0 < ls.length → ∀ a, lo = some a → a.block ≠ b) (hm : ∀ l ∈ ls, l ∈ y.ls ∨ ∀ a, l.po = some a → a.block ≠ b) : Away b (y.withL ls lo ln lc) :=
 ⟨h.f, h.t, h.m, hl, fun l hl' h0 => (hm l hl').elim (fun g => h.p l g h0) (fun g => g), h.v⟩
theorem y_sliceTo {C : World → Prop} {L : List (Nat × Value)} {o : Oper} {x y : Operand} {ao : Option Addr} {n cap H : Nat} (ho : o.op = .slice 23 x none (some y) none) (hx : ev L x = some (.slice ao n cap)) (hy : ev L y = some (.int .i64 (H : Nat))) (hH : H ≤ cap) :
    YC Tryz.prog C L o (.slice ao H cap) := by
 intro ρ hρ wx _
 have e1 : (Go.sizeOf 3).run Tryz.prog wx = .ok 1 wx := Tryz.sizeOf3 wx
 have e : (Instr.sliceAt 23 (.slice ao n cap) none (some (.int .i64 (H : Nat))) none).run Tryz.prog wx = .ok (.slice ao H cap) wx := by
  cases ao <;> simp [Instr.sliceAt, Instr.slice, Instr.sliceBounds, Instr.sliceBound, run_under Tryz.underlying23, e1, go_sem, asIntOf, hH]
 simp [execOp, ho, hρ _ _ hx, hρ _ _ hy, e, go_sem]
theorem riseL_of {y : Hx} (h : LssOk y.hp) : RiseL y.ls := fun k h0 h1 => by
 have e : y.hp.lists.length = y.ls.length := by show (y.ls.map _).length = _; rw [List.length_map]
 have := h.ord k h0 (by omega)
 rw [show y.hp.lists = y.ls.map (·.l) from rfl, getD_l, getD_l] at this
 exact this
theorem app_own1 (w : World) (ty : TypeId) (B : Nat) (ao : Option Addr) (n cap : Nat) (ps : List Int) (p : Int) (gb : Nat) (ho : w.ownsRow B 3 1 (.slice ao n cap) n (vals ps)) (hn : n ≤ 300) (hb : w.heap[gb]? = some (.cells #[.int .i64 p] 3 (0, 0))) (hB : B ≤ w.heap.size) :
    ∃ g' c' W, (Builtin.append_ #[23, 23] ty #[.slice ao n cap, .slice (some ⟨gb, 0, none⟩) 1 1]).run Tryz.prog w = .ok (.slice (some ⟨g', 0, none⟩) (n + 1) c') W ∧ W.ownsRow B 3 1 (.slice (some ⟨g', 0, none⟩) (n + 1) c') (n + 1) (vals (ps ++ [p])) ∧ ((ao = some ⟨g', 0, none⟩ ∧ But g' w W) ∨ (g' = w.heap.size ∧ Below w.heap.size w W)) := by
 obtain ⟨i1, hj, hy0, hy1, hy2⟩ := info_parts info_int
 have hnews : ∀ j v, (vals [p])[j]? = some v → w.cell? ((⟨gb, 0, none⟩ : Addr).add j) = some v := by
  intro j v hjv
  rw [add_at, Nat.zero_add]
  simp only [World.cell?, hb]
  change ([Value.int .i64 p] : List Value)[j]? = some v at hjv
  simpa using hjv
 obtain ⟨g', c', W, hrun, ow, hcs⟩ := append_row (P := Tryz.prog) w B 23 ty 3 i1 _ 1 Tryz.underlying23 hj hy0 hy1 rfl ao n cap (vals ps) ho ⟨gb, 0, none⟩ 1 1 (vals [p]) rfl hnews (vals_oneCell _) (by omega) (by unfold maxLen; omega) (by rw [hy2]; omega) hB
 exact ⟨g', c', W, hrun, by rw [vals_append]; exact ow, hcs⟩
theorem found_at {e : Ending} {l : List Bk} {g : Bk → Bool} (h : FoundAt e l g) : e = .returned (.int .i64 (fidx g l)) := by
 rcases h with ⟨k, hk, rfl, h1, h2⟩ | ⟨rfl, h⟩
 ·rw [fidx_some hk h1 h2]
 rw [fidx_none h]
theorem chooseF_any (W : World) (b1 b2 : Nat) (o t : Int) (ba bo bt : Int) (c1 : W.cell? ⟨b1, 0, none⟩ = some (.int .i64 o)) (c2 : W.cell? ⟨b2, 0, none⟩ = some (.int .i64 t)) :
    Calls Tryz.prog 104 (#[.agg #[.int .i64 ba, .int .i64 bo, .int .i64 bt]] ++ #[.pointer (some ⟨b1, 0, none⟩), .pointer (some ⟨b2, 0, none⟩)]) W fun e W' => e = .returned (.bool (isT o t ⟨ba, bo, bt⟩)) ∧ Below W.heap.size W W' := by
 have hb0 := below_box W (.cells #[.int .i64 ba, .int .i64 bo, .int .i64 bt] 53)
 have d1 := keep c1 hb0
 have d2 := keep c2 hb0
 clear c1 c2
 by_cases g1 : bo = o
 ·have HF : Hid ((bt == t) = isT o t ⟨ba, bo, bt⟩) := by
   show _ = decide (_ ∧ _)
   rw [show (bt == t) = decide (bt = t) from rfl]
   simp [g1]
  have g1' : (bo == o) = true := by simpa using g1
  clear g1
  go_enter Tryz.func104, Tryz.ntmps104
  go_wp2
  go_ret
  exact ⟨ret_bool HF.out, hb0⟩
 have HF : Hid (false = isT o t ⟨ba, bo, bt⟩) := by
  show _ = decide (_ ∧ _)
  simp [g1]
 have g1' : (bo == o) = false := by simpa using g1
 clear g1
 go_enter Tryz.func104, Tryz.ntmps104
 go_wp2
 go_ret
 exact ⟨ret_bool HF.out, hb0⟩
theorem chooseF_call (args : Array Value) (W : World) : (callFunc 104 args).run Tryz.prog W = .ok (.enter 104 args) W := by kernel_rfl
theorem chooseL_any (W : World) (fb : Nat) (fo : Option Addr) (fn fc : Nat) (l : List Bk) (o t : Int) (c : W.cell? ⟨fb, 0, none⟩ = some (.slice fo fn fc)) (h : Blks W fo fn l) :
    Calls Tryz.prog 103 (#[.int .i64 o, .int .i64 t] ++ #[.pointer (some ⟨fb, 0, none⟩)]) W fun e W' => e = .returned (.int .i64 (fidx (isT o t) l)) ∧ Below W.heap.size W W' := by
 have hb0 : Below W.heap.size W ((W.alloc (.cells #[.int .i64 o] 3)).alloc (.cells #[.int .i64 t] 3)) := ((Below.refl _ _).alloc (Nat.le_refl _) _).alloc (by simp) _
 have p1 : ((W.alloc (.cells #[.int .i64 o] 3)).alloc (.cells #[.int .i64 t] 3)).cell? ⟨W.heap.size, 0, none⟩ = some (.int .i64 o) := by go_simp
 have p2 : ((W.alloc (.cells #[.int .i64 o] 3)).alloc (.cells #[.int .i64 t] 3)).cell? ⟨W.heap.size + 1, 0, none⟩ = some (.int .i64 t) := by go_simp
 have c' := keep c hb0
 have HI := bIndex_any _ 104 #[.pointer (some ⟨W.heap.size, 0, none⟩), .pointer (some ⟨W.heap.size + 1, 0, none⟩)] fo fn fc l (isT o t) (h.below hb0) chooseF_call (fun i hi V hb => chooseF_any V _ _ o t _ _ _ (keep p1 hb) (keep p2 hb))
 go_enter Tryz.func103, Tryz.ntmps103
 go_wp2_with fail
 go_at_call 40
 refine HI.mono ?_
 rintro e w1 ⟨hf, hb⟩
 obtain rfl := found_at hf
 clear HI
 go_wp2
 go_ret
 exact ⟨rfl, hb0.trans (hb.mono hb0.size)⟩
theorem ix0 (W : World) (x y : Int) : (Instr.index 120 (.agg #[.int .i64 x, .int .i64 y]) (.int .i64 0)).run Tryz.prog W = .ok (.int .i64 x) W := by
 kernel_rfl
theorem ix1 (W : World) (x y : Int) : (Instr.index 120 (.agg #[.int .i64 x, .int .i64 y]) (.int .i64 1)).run Tryz.prog W = .ok (.int .i64 y) W := by
 kernel_rfl
structure TabAt (w : World) : Prop where
 a0 : w.cell? ⟨0, 0, none⟩ = some (.int .i64 2)
 a1 : w.cell? ⟨0, 1, none⟩ = some (.int .i64 1)
 a2 : w.cell? ⟨0, 2, none⟩ = some (.int .i64 2)
 a3 : w.cell? ⟨0, 3, none⟩ = some (.int .i64 0)
 a4 : w.cell? ⟨0, 4, none⟩ = some (.int .i64 0)
 a5 : w.cell? ⟨0, 5, none⟩ = some (.int .i64 1)
theorem TabAt.below {w w' : World} (h : TabAt w) (hb : Below w.heap.size w w') : TabAt w' := ⟨keep h.a0 hb, keep h.a1 hb, keep h.a2 hb, keep h.a3 hb, keep h.a4 hb, keep h.a5 hb⟩
theorem choose_any (w : World) (fo : Option Addr) (fn fc : Nat) (l : List Bk) (o t : Int) (h : Blks w fo fn l) (hT : TabAt w) (ho : ordOk o) (ht : typeOk t) :
    Calls Tryz.prog 88 #[.slice fo fn fc, .int .i64 o, .int .i64 t] w fun e w' => e = .returned (.int .i64 (chooseI l o t)) ∧ Below w.heap.size w w' := by
 obtain ⟨o0, o4⟩ := ho
 obtain ⟨t0, t2⟩ := ht
 have i0 := ix0
 have i1 := ix1
 have hb0 := below_box w (.cells #[.slice fo fn fc] 25)
 have p1 : (w.alloc (.cells #[.slice fo fn fc] 25)).cell? ⟨w.heap.size, 0, none⟩ = some (.slice fo fn fc) := by go_simp
 obtain ⟨W0, hW0⟩ : ∃ W0, w.alloc (.cells #[.slice fo fn fc] 25) = W0 := ⟨_, rfl⟩
 rw [hW0] at hb0 p1
 have HW0 : Hid _ := hW0
 have hB0 := h.below hb0
 have T0 := hT.below hb0
 obtain ⟨U, hU⟩ : ∃ U, upI l t (5 - o).toNat o = U := ⟨_, rfl⟩
 have HU : Hid (upI l t (5 - o).toNat o = U) := hU
 obtain ⟨D, hD⟩ : ∃ D, dnI l (other1 t) (other2 t) o (5 - o).toNat = D := ⟨_, rfl⟩
 have HD : Hid (dnI l (other1 t) (other2 t) o (5 - o).toNat = D) := hD
 have HCh : Hid (chooseI l o t = if 0 ≤ U then U else D) := by show _ = _; unfold chooseI; rw [hU, hD]
 clear hD
 clear hW0 hU
 go_enter Tryz.func88, Tryz.ntmps88
 go_wp2_with (rw [HW0.out])
 clear HW0
 go_loopw [8] (fun ov wr => ∃ O : Int, ov = .int .i64 O ∧ o ≤ O ∧ O ≤ 5 ∧ Hid (upI l t (5 - O).toNat O = U) ∧ Below W0.heap.size W0 wr) (fun ov _ => (5 - intOf ov).toNat)
 case atStart => exact ⟨o, rfl, by omega, by omega, HU, Below.refl _ _⟩
 case round =>
  obtain ⟨O, rfl, h1, h2, hG, hb⟩ := hrel
  clear HU
  have pW := keep p1 hb
  by_cases hlt : O ≤ 4
  ·have HL := chooseL_any wr w.heap.size fo fn fc l O t pW (hB0.below hb)
   obtain ⟨m, hm⟩ : ∃ m, (5 - O).toNat = m + 1 := ⟨(5 - O).toNat - 1, by omega⟩
   have hm2 : (5 - (O + 1)).toNat = m := by omega
   have hG1 : Hid ((if 0 ≤ fidx (isT O t) l then fidx (isT O t) l else upI l t m (O + 1)) = U) := by have := hG.out; rw [hm] at this; exact this
   obtain ⟨X, hX⟩ : ∃ X, fidx (isT O t) l = X := ⟨_, rfl⟩
   rw [hX] at HL hG1
   clear hG hX
   go_wp2_with fail
   go_at_call 103
   refine HL.mono ?_
   rintro e w1 ⟨rfl, hb1⟩
   have hb' := hb.trans (hb1.mono hb.size)
   clear HL
   by_cases hx : 0 ≤ X
   ·have HR : Hid (X = chooseI l o t) := by
     show _ = _
     have hUX : X = U := by have := hG1.out; rw [if_pos hx] at this; exact this
     rw [HCh.out, ← hUX, if_pos hx]
    clear hG1
    go_wp2
    go_ret
    exact ⟨by rw [HR.out]; rfl, hb0.trans (hb'.mono hb0.size)⟩
   have hG2 : Hid (upI l t (5 - (O + 1)).toNat (O + 1) = U) := by
    show _ = _
    rw [hm2, ← hG1.out, if_neg hx]
   clear hG1
   go_wp2
   go_roundw
   case rel => exact ⟨O + 1, by go_num, by omega, by omega, hG2, hb'⟩
   case measure => simp [intOf]; omega
  have HC2 : Hid (chooseI l o t = D) := by
   show _ = _
   have hU1 : U = -1 := by have := hG.out; rw [show (5 - O).toNat = 0 by omega] at this; exact this.symm
   rw [HCh.out, hU1]
   rfl
  clear HCh hG
  go_wp2
  go_loopw [10] (fun ov wq => ∃ (n : Nat) (P : Int), ov = .int .i64 P ∧ P = o + n - 1 ∧ P ≤ 4 ∧ Hid (dnI l (other1 t) (other2 t) o n = D) ∧ Below W0.heap.size W0 wq) (fun ov _ => (intOf ov + 1).toNat)
  case atStart => exact ⟨(5 - o).toNat, 4, rfl, by omega, by omega, HD, hb⟩
  case round =>
   obtain ⟨n, P, rfl, hP, hP4, hN, hbq⟩ := hrel
   clear HD
   have pQ := keep p1 hbq
   have TQ := T0.below hbq
   have HP : Hid (P = o + n - 1) := hP
   by_cases hge : o ≤ P
   ·obtain ⟨m, rfl⟩ : ∃ m, n = m + 1 := ⟨n - 1, by omega⟩
    have hPm : P = o + m := by omega
    have HPm : Hid (P = o + m) := hPm
    clear hP HP
    rcases (show t = 0 ∨ t = 1 ∨ t = 2 by omega) with rfl | rfl | rfl
    ·obtain ⟨X, hX⟩ : ∃ X, fidx (isT P 2) l = X := ⟨_, rfl⟩
     obtain ⟨Y, hY⟩ : ∃ Y, fidx (isT P 1) l = Y := ⟨_, rfl⟩
     have hN1 : Hid ((if 0 ≤ X then X else if 0 ≤ Y then Y else dnI l 2 1 o m) = D) := by
      show _ = _
      have := hN.out
      rw [← hX, ← hY, hPm]
      exact this
     have HLX : Hid (∀ W, Below W0.heap.size W0 W → Calls Tryz.prog 103 (#[.int .i64 P, .int .i64 2] ++ #[.pointer (some ⟨w.heap.size, 0, none⟩)]) W fun e W' => e = .returned (.int .i64 X) ∧ Below W.heap.size W W') := fun W hW => by rw [← hX]; exact chooseL_any W w.heap.size fo fn fc l P 2 (keep p1 hW) (hB0.below hW)
     have HLY : Hid (∀ W, Below W0.heap.size W0 W → Calls Tryz.prog 103 (#[.int .i64 P, .int .i64 1] ++ #[.pointer (some ⟨w.heap.size, 0, none⟩)]) W fun e W' => e = .returned (.int .i64 Y) ∧ Below W.heap.size W W') := fun W hW => by rw [← hY]; exact chooseL_any W w.heap.size fo fn fc l P 1 (keep p1 hW) (hB0.below hW)
     have ta := TQ.a0
     have tb := TQ.a1
     clear hX hY hN hPm pQ
     go_wp2
     clear ta tb
     go_loopw [35] (fun kv wi => ∃ k : Nat, k ≤ 2 ∧ kv = .int .i64 k ∧ (1 ≤ k → X < 0) ∧ (2 ≤ k → Y < 0) ∧ Below W0.heap.size W0 wi) (fun kv _ => 2 - (intOf kv).toNat)
     case atStart => exact ⟨0, by omega, rfl, fun g => by omega, fun g => by omega, hbq⟩
     case round =>
      obtain ⟨k, hk, rfl, hk1, hk2, hbi⟩ := hrel
      rcases (show k = 0 ∨ k = 1 ∨ k = 2 by omega) with rfl | rfl | rfl
      ·go_wp2_with fail
       go_at_call 103
       refine (HLX.out _ hbi).mono ?_
       rintro e w1 ⟨rfl, hb1⟩
       have hb' := hbi.trans (hb1.mono hbi.size)
       by_cases hx : 0 ≤ X
       ·have HR : Hid (X = chooseI l o 0) := by show _ = _; have := hN1.out; rw [if_pos hx] at this; rw [HC2.out]; exact this
        clear hN1 HLX HLY
        go_wp2
        go_ret
        exact ⟨by rw [HR.out]; rfl, hb0.trans (hb'.mono hb0.size)⟩
       clear HLX HLY
       go_wp2
       go_roundw
       case rel => exact ⟨1, by omega, by go_num, fun _ => by omega, fun g => by omega, hb'⟩
       case measure => simp [intOf]
      ·have hx := hk1 (by omega)
       go_wp2_with fail
       go_at_call 103
       refine (HLY.out _ hbi).mono ?_
       rintro e w1 ⟨rfl, hb1⟩
       have hb' := hbi.trans (hb1.mono hbi.size)
       by_cases hy : 0 ≤ Y
       ·have HR : Hid (Y = chooseI l o 0) := by show _ = _; have := hN1.out; rw [if_neg (by omega), if_pos hy] at this; rw [HC2.out]; exact this
        clear hN1 HLX HLY
        go_wp2
        go_ret
        exact ⟨by rw [HR.out]; rfl, hb0.trans (hb'.mono hb0.size)⟩
       clear HLX HLY
       go_wp2
       go_roundw
       case rel => exact ⟨2, by omega, by go_num, fun _ => by omega, fun _ => by omega, hb'⟩
       case measure => simp [intOf]
      have hx := hk1 (by omega)
      have hy := hk2 (by omega)
      have hN2 : Hid (dnI l 2 1 o m = D) := by show _ = _; have := hN1.out; rw [if_neg (by omega), if_neg (by omega)] at this; exact this
      clear hN1 HLX HLY
      go_wp2
      go_roundw
      case rel => exact ⟨m, P - 1, by go_num, by have := HPm.out; omega, by omega, hN2, hbi⟩
      case measure => simp [intOf]; omega
    ·obtain ⟨X, hX⟩ : ∃ X, fidx (isT P 2) l = X := ⟨_, rfl⟩
     obtain ⟨Y, hY⟩ : ∃ Y, fidx (isT P 0) l = Y := ⟨_, rfl⟩
     have hN1 : Hid ((if 0 ≤ X then X else if 0 ≤ Y then Y else dnI l 2 0 o m) = D) := by
      show _ = _
      have := hN.out
      rw [← hX, ← hY, hPm]
      exact this
     have HLX : Hid (∀ W, Below W0.heap.size W0 W → Calls Tryz.prog 103 (#[.int .i64 P, .int .i64 2] ++ #[.pointer (some ⟨w.heap.size, 0, none⟩)]) W fun e W' => e = .returned (.int .i64 X) ∧ Below W.heap.size W W') := fun W hW => by rw [← hX]; exact chooseL_any W w.heap.size fo fn fc l P 2 (keep p1 hW) (hB0.below hW)
     have HLY : Hid (∀ W, Below W0.heap.size W0 W → Calls Tryz.prog 103 (#[.int .i64 P, .int .i64 0] ++ #[.pointer (some ⟨w.heap.size, 0, none⟩)]) W fun e W' => e = .returned (.int .i64 Y) ∧ Below W.heap.size W W') := fun W hW => by rw [← hY]; exact chooseL_any W w.heap.size fo fn fc l P 0 (keep p1 hW) (hB0.below hW)
     have ta := TQ.a2
     have tb := TQ.a3
     clear hX hY hN hPm pQ
     go_wp2
     clear ta tb
     go_loopw [35] (fun kv wi => ∃ k : Nat, k ≤ 2 ∧ kv = .int .i64 k ∧ (1 ≤ k → X < 0) ∧ (2 ≤ k → Y < 0) ∧ Below W0.heap.size W0 wi) (fun kv _ => 2 - (intOf kv).toNat)
     case atStart => exact ⟨0, by omega, rfl, fun g => by omega, fun g => by omega, hbq⟩
     case round =>
      obtain ⟨k, hk, rfl, hk1, hk2, hbi⟩ := hrel
      rcases (show k = 0 ∨ k = 1 ∨ k = 2 by omega) with rfl | rfl | rfl
      ·go_wp2_with fail
       go_at_call 103
       refine (HLX.out _ hbi).mono ?_
       rintro e w1 ⟨rfl, hb1⟩
       have hb' := hbi.trans (hb1.mono hbi.size)
       by_cases hx : 0 ≤ X
       ·have HR : Hid (X = chooseI l o 1) := by show _ = _; have := hN1.out; rw [if_pos hx] at this; rw [HC2.out]; exact this
        clear hN1 HLX HLY
        go_wp2
        go_ret
        exact ⟨by rw [HR.out]; rfl, hb0.trans (hb'.mono hb0.size)⟩
       clear HLX HLY
       go_wp2
       go_roundw
       case rel => exact ⟨1, by omega, by go_num, fun _ => by omega, fun g => by omega, hb'⟩
       case measure => simp [intOf]
      ·have hx := hk1 (by omega)
       go_wp2_with fail
       go_at_call 103
       refine (HLY.out _ hbi).mono ?_
       rintro e w1 ⟨rfl, hb1⟩
       have hb' := hbi.trans (hb1.mono hbi.size)
       by_cases hy : 0 ≤ Y
       ·have HR : Hid (Y = chooseI l o 1) := by show _ = _; have := hN1.out; rw [if_neg (by omega), if_pos hy] at this; rw [HC2.out]; exact this
        clear hN1 HLX HLY
        go_wp2
        go_ret
        exact ⟨by rw [HR.out]; rfl, hb0.trans (hb'.mono hb0.size)⟩
       clear HLX HLY
       go_wp2
       go_roundw
       case rel => exact ⟨2, by omega, by go_num, fun _ => by omega, fun _ => by omega, hb'⟩
       case measure => simp [intOf]
      have hx := hk1 (by omega)
      have hy := hk2 (by omega)
      have hN2 : Hid (dnI l 2 0 o m = D) := by show _ = _; have := hN1.out; rw [if_neg (by omega), if_neg (by omega)] at this; exact this
      clear hN1 HLX HLY
      go_wp2
      go_roundw
      case rel => exact ⟨m, P - 1, by go_num, by have := HPm.out; omega, by omega, hN2, hbi⟩
      case measure => simp [intOf]; omega
    obtain ⟨X, hX⟩ : ∃ X, fidx (isT P 0) l = X := ⟨_, rfl⟩
    obtain ⟨Y, hY⟩ : ∃ Y, fidx (isT P 1) l = Y := ⟨_, rfl⟩
    have hN1 : Hid ((if 0 ≤ X then X else if 0 ≤ Y then Y else dnI l 0 1 o m) = D) := by
     show _ = _
     have := hN.out
     rw [← hX, ← hY, hPm]
     exact this
    have HLX : Hid (∀ W, Below W0.heap.size W0 W → Calls Tryz.prog 103 (#[.int .i64 P, .int .i64 0] ++ #[.pointer (some ⟨w.heap.size, 0, none⟩)]) W fun e W' => e = .returned (.int .i64 X) ∧ Below W.heap.size W W') := fun W hW => by rw [← hX]; exact chooseL_any W w.heap.size fo fn fc l P 0 (keep p1 hW) (hB0.below hW)
    have HLY : Hid (∀ W, Below W0.heap.size W0 W → Calls Tryz.prog 103 (#[.int .i64 P, .int .i64 1] ++ #[.pointer (some ⟨w.heap.size, 0, none⟩)]) W fun e W' => e = .returned (.int .i64 Y) ∧ Below W.heap.size W W') := fun W hW => by rw [← hY]; exact chooseL_any W w.heap.size fo fn fc l P 1 (keep p1 hW) (hB0.below hW)
    have ta := TQ.a4
    have tb := TQ.a5
    clear hX hY hN hPm pQ
    go_wp2
    clear ta tb
    go_loopw [35] (fun kv wi => ∃ k : Nat, k ≤ 2 ∧ kv = .int .i64 k ∧ (1 ≤ k → X < 0) ∧ (2 ≤ k → Y < 0) ∧ Below W0.heap.size W0 wi) (fun kv _ => 2 - (intOf kv).toNat)
    case atStart => exact ⟨0, by omega, rfl, fun g => by omega, fun g => by omega, hbq⟩
    case round =>
     obtain ⟨k, hk, rfl, hk1, hk2, hbi⟩ := hrel
     rcases (show k = 0 ∨ k = 1 ∨ k = 2 by omega) with rfl | rfl | rfl
     ·go_wp2_with fail
      go_at_call 103
      refine (HLX.out _ hbi).mono ?_
      rintro e w1 ⟨rfl, hb1⟩
      have hb' := hbi.trans (hb1.mono hbi.size)
      by_cases hx : 0 ≤ X
      ·have HR : Hid (X = chooseI l o 2) := by show _ = _; have := hN1.out; rw [if_pos hx] at this; rw [HC2.out]; exact this
       clear hN1 HLX HLY
       go_wp2
       go_ret
       exact ⟨by rw [HR.out]; rfl, hb0.trans (hb'.mono hb0.size)⟩
      clear HLX HLY
      go_wp2
      go_roundw
      case rel => exact ⟨1, by omega, by go_num, fun _ => by omega, fun g => by omega, hb'⟩
      case measure => simp [intOf]
     ·have hx := hk1 (by omega)
      go_wp2_with fail
      go_at_call 103
      refine (HLY.out _ hbi).mono ?_
      rintro e w1 ⟨rfl, hb1⟩
      have hb' := hbi.trans (hb1.mono hbi.size)
      by_cases hy : 0 ≤ Y
      ·have HR : Hid (Y = chooseI l o 2) := by show _ = _; have := hN1.out; rw [if_neg (by omega), if_pos hy] at this; rw [HC2.out]; exact this
       clear hN1 HLX HLY
       go_wp2
       go_ret
       exact ⟨by rw [HR.out]; rfl, hb0.trans (hb'.mono hb0.size)⟩
      clear HLX HLY
      go_wp2
      go_roundw
      case rel => exact ⟨2, by omega, by go_num, fun _ => by omega, fun _ => by omega, hb'⟩
      case measure => simp [intOf]
     have hx := hk1 (by omega)
     have hy := hk2 (by omega)
     have hN2 : Hid (dnI l 0 1 o m = D) := by show _ = _; have := hN1.out; rw [if_neg (by omega), if_neg (by omega)] at this; exact this
     clear hN1 HLX HLY
     go_wp2
     go_roundw
     case rel => exact ⟨m, P - 1, by go_num, by have := HPm.out; omega, by omega, hN2, hbi⟩
     case measure => simp [intOf]; omega
   have hn0 : n = 0 := by omega
   have HR : Hid (-1 = chooseI l o t) := by show _ = _; have := hN.out; rw [hn0] at this; rw [HC2.out]; exact this
   clear hN hP
   go_wp2
   go_ret
   exact ⟨by rw [← HR.out]; rfl, hb0.trans (hbq.mono hb0.size)⟩
def RetNone3 (c : Int) (e : Ending) : Prop := e = .returned (.tuple #[.agg #[.int .i64 0, .int .i64 0, .slice none 0 0, .slice none 0 0], .int .i64 0, .int .i64 c])
def RetZone3 (B : Nat) (w' : World) (z : Zn) (a : Int) (e : Ending) : Prop :=
 ∃ fo fn fc to_ tn tc, e = .returned (.tuple #[.agg #[.int .i64 z.f, .int .i64 z.t, .slice fo fn fc, .slice to_ tn tc], .int .i64 a, .int .i64 0]) ∧ ZnAt w' fo fn to_ tn z ∧ Fresh B fo ∧ Fresh B to_
theorem zTake_room (w : World) (fo : Option Addr) (fn fc : Nat) (to_ : Option Addr) (tn tc : Nat) (z : Zn) (o t : Int) (h : ZnAt w fo fn to_ tn z) (hM : ZMay z) (hT : TabAt w) (ho : ordOk o) (ht : typeOk t) (hN : chooseI z.free o t < 0) :
    Calls Tryz.prog 63 #[.agg #[.int .i64 z.f, .int .i64 z.t, .slice fo fn fc, .slice to_ tn tc], .int .i64 o, .int .i64 t] w fun e w' => RetNone3 6 e ∧ Below w.heap.size w w' := by
 have I0 := cbI_first w fo fn fc to_ tn tc z h
 have c0 := I0.box.c0
 have c1 := I0.box.c1
 have c2 := I0.box.c2
 have c3 := I0.box.c3
 clear h
 go_enter Tryz.func63, Tryz.ntmps63
 have HO : Hid (inB o 0 4 = true) := inB_t ho
 have HT : Hid (inB t 0 2 = true) := inB_t ht
 go_wp2_with fail
 go_at_call 54
 refine (zCheck_ok _ fo fn fc to_ tn tc z I0.zn hM).mono ?_
 rintro e w1 ⟨rfl, hb⟩
 have I1 := I0.step hb
 clear I0 hb hM c0 c1 c2 c3
 have c0 := I1.box.c0
 have c1 := I1.box.c1
 have c2 := I1.box.c2
 have c3 := I1.box.c3
 go_wp2_with fail
 go_at_call 86
 refine (isOrder_any _ o).mono ?_
 rintro e wq ⟨rfl, rfl⟩
 rw [HO.out]
 go_wp2_with fail
 go_at_call 87
 refine (isType_any _ t).mono ?_
 rintro e wq ⟨rfl, rfl⟩
 rw [HT.out]
 go_wp2_with fail
 go_at_call 88
 refine (choose_any _ fo fn fc z.free o t I1.zn.free (hT.below I1.b) ho ht).mono ?_
 rintro e w2 ⟨rfl, hb2⟩
 have I2 := I1.step hb2
 clear I1 hb2 c0 c1 c2 c3
 have c0 := I2.box.c0
 have c1 := I2.box.c1
 have c2 := I2.box.c2
 have c3 := I2.box.c3
 obtain ⟨C, hC⟩ : ∃ C, chooseI z.free o t = C := ⟨_, rfl⟩
 rw [hC] at hN ⊢
 clear hC
 have R1 := I2.res
 obtain ⟨⟨x0, d0⟩, ⟨x1, d1⟩, ⟨x2, d2⟩, ⟨x3, d3⟩, z0, z1, z2, z3⟩ := id R1
 have hB := I2.b
 have hs := I2.size
 clear I2 c0 c1 c2 c3
 go_wp2
 obtain ⟨k0, k1, k2, k3⟩ := res4 R1 (.int .i64 0) (.int .i64 0) (.slice none 0 0) (.slice none 0 0)
 have hbt := but4 w2 (w.heap.size + 1) (.int .i64 0) (.int .i64 0) (.slice none 0 0) (.slice none 0 0)
 exact bodyPost_ret (v := .tuple #[.agg #[.int .i64 0, .int .i64 0, .slice none 0 0, .slice none 0 0], .int .i64 0, .int .i64 6]) (by simp [results, Tryz.results63, go_sem, k0, k1, k2, k3]) rfl ⟨rfl, hB.trans (hbt.below (by omega) (by omega))⟩
theorem own_type {w : World} {base g n cap : Nat} {l : List Bk} (h : w.ownsRow base 53 3 (.slice (some ⟨g, 0, none⟩) n cap) n (bvals l)) {i : Nat} (hi : i < n) (x : Int) :
    w.cell? ⟨g, i * 3 + 2, none⟩ = some (.int .i64 (l.getD i .zero).t) ∧ w.frozen? ⟨g, i * 3 + 2, none⟩ = false ∧
    (w.setCell ⟨g, i * 3 + 2, none⟩ (.int .i64 x)).ownsRow base 53 3 (.slice (some ⟨g, 0, none⟩) n cap) n (bvals (l.set i ⟨(l.getD i .zero).a, (l.getD i .zero).o, x⟩)) := by
 have hl := bowns_len h
 refine ⟨by rw [h.cellAt _ (by omega), bvals_2 l i (by omega)], h.frozenAt _, ?_⟩
 have := (h.stored (i * 3 + 2) (.int .i64 x)).1
 rwa [bvals_set2 l i x (by omega)] at this
theorem at_world {Q : Exit → Act → World → Prop} {a : Act} {V : World} (S : World → Prop) (hS : S V) (h : ∀ V', S V' → Q .normal a V') : Q .normal a V := h V hS
theorem Zo.types {w : World} {base zb g n cap k tn tk : Nat} {z : Zn} (h : Zo w base zb g n cap k tn tk z) {i : Nat} (hi : i < tn) (t : Int) :
    w.cell? ⟨k, i, none⟩ = some (.int .i64 (z.types.getD i 0)) ∧ w.frozen? ⟨k, i, none⟩ = false ∧ Zo (w.setCell ⟨k, i, none⟩ (.int .i64 t)) base zb g n cap k tn tk ⟨z.f, z.t, z.free, z.types.set i t⟩ ∧ But k w (w.setCell ⟨k, i, none⟩ (.int .i64 t)) := by
 obtain ⟨c1, c2, o⟩ := owns_store h.typ i hi t
 have hbt : But k w (w.setCell ⟨k, i, none⟩ (.int .i64 t)) := (But.refl _ _).setCell _
 exact ⟨c1, c2, ⟨h.box.but hbt (Ne.symm h.kz), own_but h.own hbt h.gk, o, h.gz, h.kz, h.gk⟩, hbt⟩
theorem Zo.btype {w : World} {base zb g n cap k tn tk : Nat} {z : Zn} (h : Zo w base zb g n cap k tn tk z) {i : Nat} (hi : i < n) (t : Int) :
    w.cell? ⟨g, i * 3 + 2, none⟩ = some (.int .i64 (z.free.getD i .zero).t) ∧ w.frozen? ⟨g, i * 3 + 2, none⟩ = false ∧ Zo (w.setCell ⟨g, i * 3 + 2, none⟩ (.int .i64 t)) base zb g n cap k tn tk ⟨z.f, z.t, z.free.set i ⟨(z.free.getD i .zero).a, (z.free.getD i .zero).o, t⟩, z.types⟩ ∧ But g w (w.setCell ⟨g, i * 3 + 2, none⟩ (.int .i64 t)) := by
 obtain ⟨c1, c2, o⟩ := own_type h.own hi t
 have hbt : But g w (w.setCell ⟨g, i * 3 + 2, none⟩ (.int .i64 t)) := (But.refl _ _).setCell _
 exact ⟨c1, c2, ⟨h.box.but hbt (Ne.symm h.gz), o, own_but h.typ hbt (Ne.symm h.gk), h.gz, h.kz, h.gk⟩, hbt⟩
set_option maxHeartbeats 8000000 in
theorem steal_any (w : World) (base zb g n cap k tn tk : Nat) (z : Zn) (ba bo bt t : Int) (F L : Nat) (Z : Zo w base zb g n cap k tn tk z) (hn : n ≤ 300) (h0 : 0 ≤ z.f) (hb : ordOk bo) (h1 : z.f ≤ ba) (h2 : ba + pw bo ≤ 256)
    (hF : (ba - z.f) / 8 = (F : Int)) (hL : (ba + pw bo - 1 - z.f) / 8 = (L : Int)) (hLn : L < tn) (hall : ∀ b ∈ z.free, z.f ≤ b.a ∧ b.a ≤ 256) (htn : tn ≤ 300) :
    Calls Tryz.prog 89 #[.pointer (some ⟨zb, 0, none⟩), .agg #[.int .i64 ba, .int .i64 bo, .int .i64 bt], .int .i64 t] w fun e w' => e = .returned (.tuple #[]) ∧
     Zo w' base zb g n cap k tn tk ⟨z.f, z.t, z.free.map (stealB z.f F L t), setR z.types F t (L + 1 - F)⟩ ∧ Bu2 g k w w' := by
 have hp := pw_pos bo
 have hb0 := below_box w (.cells #[.int .i64 ba, .int .i64 bo, .int .i64 bt] 53)
 have l0 : (w.alloc (.cells #[.int .i64 ba, .int .i64 bo, .int .i64 bt] 53)).cell? ⟨w.heap.size, 0, none⟩ = some (.int .i64 ba) := by go_simp
 have l1 : (w.alloc (.cells #[.int .i64 ba, .int .i64 bo, .int .i64 bt] 53)).cell? ⟨w.heap.size, 1, none⟩ = some (.int .i64 bo) := by go_simp
 have l2 : (w.alloc (.cells #[.int .i64 ba, .int .i64 bo, .int .i64 bt] 53)).cell? ⟨w.heap.size, 2, none⟩ = some (.int .i64 bt) := by go_simp
 obtain ⟨W0, hW0⟩ : ∃ W0, w.alloc (.cells #[.int .i64 ba, .int .i64 bo, .int .i64 bt] 53) = W0 := ⟨_, rfl⟩
 rw [hW0] at hb0 l0 l1 l2
 have HW0 : Hid _ := hW0
 have Z0 := Z.below hb0
 have hgl := Z.glt
 have hkl := Z.klt
 have hzl := Z.box.lt
 obtain ⟨E, hE⟩ : ∃ E, ba + pw bo = E := ⟨_, rfl⟩
 rw [hE] at h2 hL
 have hE1 : z.f ≤ E - 1 := by omega
 have hwE : IntKind.i64.wrap (E - 1) = E - 1 := IntWalk.i64_in _ (by omega)
 have m0 : ∀ wx, Below W0.heap.size W0 wx → wx.cell? ⟨w.heap.size, 0, none⟩ = some (.int .i64 ba) := fun wx h => keep l0 h
 have m1 : ∀ wx, Below W0.heap.size W0 wx → wx.cell? ⟨w.heap.size, 1, none⟩ = some (.int .i64 bo) := fun wx h => keep l1 h
 have m2 : ∀ wx, Below W0.heap.size W0 wx → wx.cell? ⟨w.heap.size, 2, none⟩ = some (.int .i64 bt) := fun wx h => keep l2 h
 have r0 : ∀ wx, Below W0.heap.size W0 wx → wx.cell? ⟨zb, 0, none⟩ = some (.int .i64 z.f) := fun wx h => keep Z0.box.c0 h
 have r1 : ∀ wx, Below W0.heap.size W0 wx → wx.cell? ⟨zb, 1, none⟩ = some (.int .i64 z.t) := fun wx h => keep Z0.box.c1 h
 have r2 : ∀ wx, Below W0.heap.size W0 wx → wx.cell? ⟨zb, 2, none⟩ = some (.slice (some ⟨g, 0, none⟩) n cap) := fun wx h => keep Z0.box.c2 h
 have r3 : ∀ wx, Below W0.heap.size W0 wx → wx.cell? ⟨zb, 3, none⟩ = some (.slice (some ⟨k, 0, none⟩) tn tk) := fun wx h => keep Z0.box.c3 h
 have HG1 : Hid (∀ V, Below W0.heap.size W0 V → Calls Tryz.prog 105 #[.agg #[.int .i64 z.f, .int .i64 z.t, .slice (some ⟨g, 0, none⟩) n cap, .slice (some ⟨k, 0, none⟩) tn tk], .int .i64 ba] V fun e w' => e = .returned (.int .i64 F) ∧ Below W0.heap.size W0 w') := fun V hV => by
  rw [← hF]
  refine (group_any V z.f z.t _ _ n cap tn tk ba h0 h1 (by omega)).mono ?_
  rintro e w' ⟨rfl, hb⟩
  exact ⟨rfl, hV.trans (hb.mono hV.size)⟩
 have HG2 : Hid (∀ V, Below W0.heap.size W0 V → Calls Tryz.prog 105 #[.agg #[.int .i64 z.f, .int .i64 z.t, .slice (some ⟨g, 0, none⟩) n cap, .slice (some ⟨k, 0, none⟩) tn tk], .int .i64 (E - 1)] V fun e w' => e = .returned (.int .i64 L) ∧ Below W0.heap.size W0 w') := fun V hV => by
  rw [← hL]
  refine (group_any V z.f z.t _ _ n cap tn tk (E - 1) h0 hE1 (by omega)).mono ?_
  rintro e w' ⟨rfl, hb⟩
  exact ⟨rfl, hV.trans (hb.mono hV.size)⟩
 have HBe : Hid (∀ V, Below W0.heap.size W0 V → Calls Tryz.prog 99 #[.agg #[.int .i64 ba, .int .i64 bo, .int .i64 bt]] V fun e w' => e = .returned (.int .i64 E) ∧ Below W0.heap.size W0 w') := fun V hV => by
  rw [← hE]
  refine (behind_any V ba bo bt hb (by omega) (by omega)).mono ?_
  rintro e w' ⟨rfl, hb⟩
  exact ⟨rfl, hV.trans (hb.mono hV.size)⟩
 have S0 : Below W0.heap.size W0 W0 := Below.refl _ _
 have hFL' : F ≤ L + 1 := by omega
 clear hW0 hF hL hE Z
 go_enter Tryz.func89, Tryz.ntmps89
 go_wp2_with (rw [HW0.out])
 clear HW0
 go_region_held3 (fun wx => Below W0.heap.size W0 wx) (first | assumption | exact Below.drew (by assumption))
  (first
   | (go_at_call_of 105 ba; refine (HG1.out _ ?_).mono ?_; assumption; rintro e w6 ⟨rfl, hS6⟩)
   | (go_at_call 105; refine (HG2.out _ ?_).mono ?_; assumption; rintro e w7 ⟨rfl, hS7⟩)
   | (go_at_call 99; refine (HBe.out _ ?_).mono ?_; assumption; rintro e w8 ⟨rfl, hS8⟩))
 all_goals
  refine at_world (fun wx => Below W0.heap.size W0 wx) (by assumption) ?_
  intro V hV
  have Z1 := Z0.below hV
  have hU1 : Bu2 g k w V := (Bu2.of_below hb0).trans (.of_below hV)
  clear HG1 HG2 HBe m0 m1 m2 r0 r1 r2 r3 S0 l0 l1 l2 hwE
  go_wp2
  go_loopw [8] (fun ov wr => ∃ c : Nat, F + c ≤ L + 1 ∧ ov = .int .i64 ((F + c : Nat) : Int) ∧ Zo wr base zb g n cap k tn tk ⟨z.f, z.t, z.free, setR z.types F t c⟩ ∧ Bu2 g k w wr) (fun ov _ => L + 1 - (intOf ov).toNat)
  case atStart => exact ⟨0, by omega, rfl, Z1, hU1⟩
  case round =>
   obtain ⟨c, hc, rfl, Zr, hU⟩ := hrel
   clear Z1 hU1
   have y3 := Zr.box.c3
   by_cases hlt : F + c ≤ L
   ·obtain ⟨q1, q2, Z5, hb5⟩ := Zr.types (i := F + c) (by omega) t
    have hU5 := hU.trans (.of_but_z hb5)
    have e1 : (((F + c : Nat) : Int) ≤ (L : Int)) := by omega
    obtain ⟨J, hJ⟩ : ∃ J, F + c = J := ⟨_, rfl⟩
    rw [hJ] at q1 q2 Z5 hU5 e1
    have hJn : J < tn := by omega
    have Z6 : Zo (wr.setCell ⟨k, J, none⟩ (.int .i64 t)) base zb g n cap k tn tk ⟨z.f, z.t, z.free, setR z.types F t (c + 1)⟩ := by
     have : setR z.types F t (c + 1) = (setR z.types F t c).set J t := by rw [← hJ]; rfl
     rw [this]; exact Z5
    have HJ : Hid (F + c = J) := hJ
    rw [hJ]
    clear hJ Zr hU Z5 hb5
    go_wp2
    go_roundw
    case rel => exact ⟨c + 1, by have := HJ.out; omega, by have := HJ.out; rw [show F + (c + 1) = J + 1 by omega]; go_num, Z6, hU5⟩
    case measure => simp [intOf]; omega
   have hcL : c = L + 1 - F := by omega
   have e1 : ¬ (((F + c : Nat) : Int) ≤ (L : Int)) := by omega
   rw [hcL] at Zr
   obtain ⟨T, hT⟩ : ∃ T, setR z.types F t (L + 1 - F) = T := ⟨_, rfl⟩
   rw [hT] at Zr
   obtain ⟨J, hJ⟩ : ∃ J, F + c = J := ⟨_, rfl⟩
   rw [hJ] at e1 ⊢
   have HT : Hid (setR z.types F t (L + 1 - F) = T) := hT
   have y2 := Zr.box.c2
   clear hT hcL hJ y3
   go_wp2
   clear y2
   go_loopw [42] (fun iv wq => ∃ i : Nat, i ≤ n ∧ iv = .int .i64 i ∧ Zo wq base zb g n cap k tn tk ⟨z.f, z.t, stealK z.f F L t z.free i, T⟩ ∧ Bu2 g k w wq) (fun iv _ => n - (intOf iv).toNat)
   case atStart => exact ⟨0, Nat.zero_le _, rfl, by rw [stealK_0]; exact Zr, hU⟩
   case round =>
    obtain ⟨i, hi, rfl, Zq, hUq⟩ := hrel
    clear Zr hU
    have hll : z.free.length = n := by have := bowns_len Zq.own; rw [stealK_len] at this; exact this
    by_cases hin : i < n
    ·obtain ⟨⟨x, y, u⟩, hX⟩ : ∃ b, z.free.getD i .zero = b := ⟨_, rfl⟩
     have hXq : (stealK z.f F L t z.free i).getD i .zero = ⟨x, y, u⟩ := by rw [stealK_at _ _ _ _ (by omega)]; exact hX
     have hsucc := stealK_succ z.f F L t (l := z.free) (by omega) hX
     have hmem : (⟨x, y, u⟩ : Bk) ∈ z.free := by rw [← hX, List.getD_eq_getElem?_getD, List.getElem?_eq_getElem (by omega)]; exact List.getElem_mem _
     obtain ⟨x1, x2⟩ := hall _ hmem
     dsimp only at x1 x2
     obtain ⟨q1, q2, Z5, hb5⟩ := Zq.btype (i := i) hin t
     rw [hXq] at q1 Z5
     dsimp only at q1 Z5
     have qa : wr.cell? ⟨g, i * 3, none⟩ = some (.int .i64 x) := by
      have := Zq.own.cellAt (i * 3) (by omega)
      rw [this]
      have h2 := bvals_0 (stealK z.f F L t z.free i) i (by rw [stealK_len]; omega)
      rw [hXq] at h2
      exact h2
     obtain ⟨G, hG⟩ : ∃ G : Nat, (x - z.f) / 8 = (G : Int) := ⟨((x - z.f) / 8).toNat, by omega⟩
     have HG : Hid (∀ V', Below wr.heap.size wr V' → Calls Tryz.prog 105 #[.agg #[.int .i64 z.f, .int .i64 z.t, .slice (some ⟨g, 0, none⟩) n cap, .slice (some ⟨k, 0, none⟩) tn tk], .int .i64 x] V' fun e w' => e = .returned (.int .i64 G) ∧ Below wr.heap.size wr w') := fun V' hV' => by
      rw [← hG]
      refine (group_any V' z.f z.t _ _ n cap tn tk x h0 x1 x2).mono ?_
      rintro e w' ⟨rfl, hb⟩
      exact ⟨rfl, hV'.trans (hb.mono hV'.size)⟩
     have HSt : Hid (stealB z.f F L t ⟨x, y, u⟩ = if (F : Int) ≤ G ∧ (G : Int) ≤ L then ⟨x, y, t⟩ else ⟨x, y, u⟩) := by
      show _ = _
      unfold stealB
      dsimp only
      rw [hG]
     have s1 : ∀ wx, Below wr.heap.size wr wx → wx.cell? ⟨zb, 0, none⟩ = some (.int .i64 z.f) := fun wx h => keep Zq.box.c0 h
     have s2 : ∀ wx, Below wr.heap.size wr wx → wx.cell? ⟨zb, 1, none⟩ = some (.int .i64 z.t) := fun wx h => keep Zq.box.c1 h
     have s3 : ∀ wx, Below wr.heap.size wr wx → wx.cell? ⟨zb, 2, none⟩ = some (.slice (some ⟨g, 0, none⟩) n cap) := fun wx h => keep Zq.box.c2 h
     have s4 : ∀ wx, Below wr.heap.size wr wx → wx.cell? ⟨zb, 3, none⟩ = some (.slice (some ⟨k, 0, none⟩) tn tk) := fun wx h => keep Zq.box.c3 h
     have s5 : ∀ wx, Below wr.heap.size wr wx → wx.cell? ⟨g, i * 3, none⟩ = some (.int .i64 x) := fun wx h => keep qa h
     have S0 : Below wr.heap.size wr wr := Below.refl _ _
     have hii : (i : Int) < n := by omega
     have HXq : Hid ((stealK z.f F L t z.free i).getD i .zero = ⟨x, y, u⟩) := hXq
     have HSu : Hid (stealK z.f F L t z.free (i + 1) = (stealK z.f F L t z.free i).set i (stealB z.f F L t ⟨x, y, u⟩)) := hsucc
     clear hX hmem hG q1 q2 Z5 hb5 hXq qa hsucc
     go_wp2_with fail
     go_region_held3 (fun wx => Below wr.heap.size wr wx) (first | assumption | exact Below.drew (by assumption))
      (first | (go_at_call 105; refine (HG.out _ ?_).mono ?_; assumption; rintro e w6 ⟨rfl, hS6⟩))
     clear HG s1 s2 s3 s4 s5 S0
     have Z6 := Zq.below hS6
     have hU6 := hUq.trans (.of_below hS6)
     have y2 := Z6.box.c2
     by_cases hst : (F : Int) ≤ G ∧ (G : Int) ≤ L
     ·obtain ⟨q1, q2, Z7, hb7⟩ := Z6.btype (i := i) hin t
      dsimp only at q1 Z7
      rw [HXq.out] at q1 Z7
      dsimp only at q1 Z7
      have hU7 := hU6.trans (.of_but_g hb7)
      have Z8 : Zo (w6.setCell ⟨g, i * 3 + 2, none⟩ (.int .i64 t)) base zb g n cap k tn tk ⟨z.f, z.t, stealK z.f F L t z.free (i + 1), T⟩ := by
       rw [HSu.out, HSt.out, if_pos hst]; exact Z7
      obtain ⟨st1, st2⟩ := hst
      clear Zq Z6 Z7 hb7 hU6 hUq
      go_wp2
      go_roundw
      case rel => exact ⟨i + 1, by omega, by go_num, Z8, hU7⟩
      case measure => simp [intOf]; omega
     have hset : (stealK z.f F L t z.free i).set i ⟨x, y, u⟩ = stealK z.f F L t z.free i := by
      have h3 := HXq.out
      rw [List.getD_eq_getElem?_getD, List.getElem?_eq_getElem (by rw [stealK_len]; omega)] at h3
      simp only [Option.getD_some] at h3
      rw [← h3]
      exact List.set_getElem_self _
     have Z8 : Zo w6 base zb g n cap k tn tk ⟨z.f, z.t, stealK z.f F L t z.free (i + 1), T⟩ := by
      rw [HSu.out, HSt.out, if_neg hst, hset]; exact Z6
     clear Zq hUq hset
     by_cases st1 : (F : Int) ≤ G
     ·have st2 : ¬ (G : Int) ≤ L := fun g => hst ⟨st1, g⟩
      clear Z6 hst
      go_wp2
      go_roundw
      case rel => exact ⟨i + 1, by omega, by go_num, Z8, hU6⟩
      case measure => simp [intOf]; omega
     clear Z6 hst
     go_wp2
     go_roundw
     case rel => exact ⟨i + 1, by omega, by go_num, Z8, hU6⟩
     case measure => simp [intOf]; omega
    have hin' : i = n := by omega
    have ZF := Zq
    rw [hin', ← hll, stealK_all] at ZF
    rw [hll] at ZF
    clear Zq
    go_wp2
    go_end0
    exact ⟨rfl, by rw [HT.out]; exact ZF, hUq⟩
end Go.Proofs.YtbjlbmofdnkmiaaGreatDoor
namespace Go.Proofs.YtbjlbmofdnkmiaaGreatDoor.Kit
open Go Go.RowKit
theorem step_append_own {P : Program} {ops : Array Oper} {o : Oper} {a : Act} {w : World} {K : Act → World → Prop} {Q : Exit → Act → World → Prop} {E : Prop}
    (hg : o.guard = none) (s x : Operand) (t : TypeId) (hop : o.op = Op.call { callee := Callee.builtin Builtin.append, args := #[s, x], argTypes := #[t, t] })
    (e : TypeId) (i : TypeInfo) (z : Value) (size bytes : Nat) (h1 : P.underlying t = some (.slice e)) (h2 : P.info? e = some i) (h3 : i.zero = some z) (h4 : i.size = size) (h5 : i.bytes = bytes) (h6 : z.cells.size = size) (h7 : 0 < size)
    (base : Nat) (v : Value) (n : Nat) (xs : List Value) (hs : a.eval s = v) (hown : w.ownsRow base e size v n xs)
    (ad : Addr) (m c : Nat) (news : List Value) (hx : a.eval x = .slice (some ad) m c) (hn : news.length = m * size) (hc : ∀ j u, news[j]? = some u → w.cell? (ad.add j) = some u) (h1c : ∀ u ∈ news, u.oneCell' = true)
    (b1 : n + m ≤ maxLen) (b2 : (n + m) * bytes ≤ 140737488355328) (hbase : base ≤ w.heap.size)
    (hK : ∀ v' w', w'.ownsRow base e size v' (n + m) (xs ++ news) → w.grownBy w' v.ownBlock → K (a.put o.dst v') w') :
    if Region.wanted o (yielded ops a.tmps) = true then Oper.wp P o a w K Q else E := by
 have hw : Region.wanted o (yielded ops a.tmps) = true := by simp [Region.wanted, hg]
 rw [if_pos hw]
 obtain ⟨v', w', hrun, r1, r2, _⟩ := run_append_own (P := P) w base t o.type e i z size bytes h1 h2 h3 h4 h5 h6 h7 v n xs hown ad m c news hn hc h1c b1 b2 hbase
 unfold Oper.wp
 simp [execOp, hop, resolve, invoke, builtin, hs, hx, hrun, Result.andThen]
 exact hK v' w' r1 r2
end Go.Proofs.YtbjlbmofdnkmiaaGreatDoor.Kit
namespace Go.Proofs.YtbjlbmofdnkmiaaGreatDoor
open Go Go.RowKit Go.Proofs.YtbjlbmofdnkmiaaGreatDoor.Kit
theorem halves_any (w : World) (ba bo bt o : Int) (hb : ordOk bo) (h0 : 0 ≤ o) (h1 : o ≤ bo) (ha : 0 ≤ ba) (ha2 : ba ≤ 256) :
    Calls Tryz.prog 91 #[.agg #[.int .i64 ba, .int .i64 bo, .int .i64 bt], .int .i64 o] w fun e w' => ∃ v, e = .returned v ∧ w'.ownsRow w.heap.size 53 3 v (bo - o).toNat (bvals (halvesL ba bt o (bo - o).toNat)) ∧ Below w.heap.size w w' := by
 obtain ⟨i1, hj, hy0, hy1, hy2⟩ := info_parts info_block
 obtain ⟨b0, b4⟩ := hb
 have hb0 := below_box w (.cells #[.int .i64 ba, .int .i64 bo, .int .i64 bt] 53)
 have l0 : (w.alloc (.cells #[.int .i64 ba, .int .i64 bo, .int .i64 bt] 53)).cell? ⟨w.heap.size, 0, none⟩ = some (.int .i64 ba) := by go_simp
 have l1 : (w.alloc (.cells #[.int .i64 ba, .int .i64 bo, .int .i64 bt] 53)).cell? ⟨w.heap.size, 1, none⟩ = some (.int .i64 bo) := by go_simp
 have l2 : (w.alloc (.cells #[.int .i64 ba, .int .i64 bo, .int .i64 bt] 53)).cell? ⟨w.heap.size, 2, none⟩ = some (.int .i64 bt) := by go_simp
 have hs0 : (w.alloc (.cells #[.int .i64 ba, .int .i64 bo, .int .i64 bt] 53)).heap.size = w.heap.size + 1 := by simp
 obtain ⟨W0, hW0⟩ : ∃ W0, w.alloc (.cells #[.int .i64 ba, .int .i64 bo, .int .i64 bt] 53) = W0 := ⟨_, rfl⟩
 rw [hW0] at hb0 l0 l1 l2 hs0
 have HW0 : Hid _ := hW0
 clear hW0
 go_enter Tryz.func91, Tryz.ntmps91
 go_wp2_with (rw [HW0.out])
 clear HW0
 go_loopw [5, 6] (fun vv ov wr => ∃ (m : Nat) (O : Int), ov = .int .i64 O ∧ Hid (O = o + m) ∧ o ≤ O ∧ O ≤ bo ∧ m = (O - o).toNat ∧ wr.ownsRow W0.heap.size 53 3 vv m (bvals (halvesL ba bt o m)) ∧ Below W0.heap.size W0 wr) (fun _ ov _ => (bo - intOf ov).toNat)
 case atStart => exact ⟨0, o, rfl, by show o = o + (0 : Nat); omega, by omega, by omega, by omega, World.ownsRow_nil _ _ _ _, Below.refl _ _⟩
 case round =>
  obtain ⟨m, O, rfl, hO, hO1, hO2, hm, hown, hbw⟩ := hrel
  have k0 := keep l0 hbw
  have k1 := keep l1 hbw
  have k2 := keep l2 hbw
  by_cases hlt : O < bo
  ·have hw1 := wrap_pw O ⟨by omega, by omega⟩
   have hp1 := pw_pos O
   have hp2 := pw_le (o := O) ⟨by omega, by omega⟩
   obtain ⟨P, hP⟩ : ∃ P, pw O = P := ⟨_, rfl⟩
   rw [hP] at hw1 hp1 hp2
   have hw2 : IntKind.i64.wrap (ba + P) = ba + P := IntWalk.i64_in _ (by omega)
   have HE : Hid (bvals (halvesL ba bt o m) ++ [Value.int .i64 (ba + P), .int .i64 O, .int .i64 bt] = bvals (halvesL ba bt o (m + 1))) := by
    show _ = bvals (halvesL ba bt o m ++ [⟨ba + pw (o + m), o + m, bt⟩])
    rw [bvals_append, ← hO.out, hP]
    rfl
   have hml : m + 1 ≤ maxLen := by unfold maxLen; omega
   have hsW := hbw.size
   have ownd : ((wr.alloc (.cells #[.int .i64 (ba + P), .int .i64 O, .int .i64 bt] 53)).drew).ownsRow W0.heap.size 53 3 u5 m (bvals (halvesL ba bt o m)) := (hown.alloc _).drew
   have hcd : ∀ j u, [Value.int .i64 (ba + P), .int .i64 O, .int .i64 bt][j]? = some u → ((wr.alloc (.cells #[.int .i64 (ba + P), .int .i64 O, .int .i64 bt] 53)).drew).cell? ((⟨wr.heap.size, 0, none⟩ : Addr).add j) = some u := fun j u h => by have := cell_three_new wr _ _ _ 53 j u h; simpa using this
   clear hP
   go_wp2
   go_region_law (refine step_append_own rfl (.tmp 14) (.tmp 24) 25 rfl 53 i1 _ 3 24 Tryz.underlying25 hj hy0 hy1 hy2 rfl (by decide) W0.heap.size u5 m (bvals (halvesL ba bt o m)) rfl ownd ⟨wr.heap.size, 0, none⟩ 1 1 [.int .i64 (ba + P), .int .i64 O, .int .i64 bt] rfl rfl hcd (ints_oneCell .i64 [_, _, _]) hml (by omega) (by simp; omega) ?_; intro v' w3 hown' hgrow)
   all_goals
    rw [HE.out] at hown'
    have hb' : Below W0.heap.size W0 w3 := ((hbw.alloc hsW _).drew).grown hgrow (by simp; omega) (fun g hg => (hown.lt g hg).1)
    obtain ⟨bo', c', rfl⟩ := owns_shape hown'
    have hO' : O + 1 = o + ((m + 1 : Nat) : Int) := by have := hO.out; omega
    have hw3 : IntKind.i64.wrap (O + 1) = O + 1 := IntWalk.i64_in _ (by omega)
    have hm' : m + 1 = (O + 1 - o).toNat := by omega
    have HM : Hid _ := hm'
    clear HE hgrow hm hm'
    go_wp2
    go_roundw
    ·exact ⟨m + 1, O + 1, by simp; omega, hO', by omega, by omega, HM.out, hown', hb'⟩
    simp [intOf]; omega
  have hOb : O = bo := by omega
  subst hOb
  subst hm
  go_wp2
  go_ret
  exact ⟨_, rfl, owns_weaken hown (by omega), hb0.trans (hbw.mono (by omega))⟩
def repB (l : List Bk) (i : Nat) (v : List Bk) : List Bk := l.take i ++ (v ++ l.drop (i + 1))
structure RepIn (w : World) (base g N cap i m vc : Nat) (vo : Option Addr) (l vl : List Bk) (cur vs XS : List Value) : Prop where
 row : Row w 53 3 g cap cur
 bg : base ≤ g
 le : N + 1 ≤ cap
 iN : i ≤ N
 N3 : N ≤ 300
 m4 : m ≤ 4
 vsl : vs.length = m * 3
 v1 : ∀ u ∈ vs, u.oneCell' = true
 v0 : vo = none → m = 0 ∧ vc = 0
 vat : 0 < m → ∃ gv cv, vo = some ⟨gv, 0, none⟩ ∧ gv ≠ g ∧ w.heap[gv]? = some (.cells cv (53) (0, 0)) ∧ cv.size = vc * 3 ∧ cv.toList.take (m * 3) = vs
 xl : XS.length = (N - i) * 3
 x1 : ∀ u ∈ XS, u.oneCell' = true
 xat : ∀ j u, XS[j]? = some u → cur[(i + 1) * 3 + j]? = some u
 out : bvals (repB l i vl) = cur.take (i * 3) ++ (vs ++ XS)
 tk : cur.take (i * 3) = bvals (l.take i)
theorem repIn (w : World) (base g N cap i m vc : Nat) (vo : Option Addr) (l vl : List Bk) (hi : i ≤ N) (hN : N ≤ 300) (hm : m ≤ 4) (own : w.ownsRow base 53 3 (.slice (some ⟨g, 0, none⟩) (N + 1) cap) (N + 1) (bvals l)) (bv : Nat) (ov : w.ownsRow bv 53 3 (.slice vo m vc) m (bvals vl)) (hne : g < bv) :
    ∃ cur vs XS, RepIn w base g N cap i m vc vo l vl cur vs XS := by
 have hll := bowns_len own
 have hvl := bowns_len ov
 obtain ⟨hbg, hnc, cur, R, hcur⟩ := Row.of own
 refine ⟨cur, bvals vl, bvals (l.drop (i + 1)), R, hbg, hnc, hi, hN, hm, by rw [length_bvals, hvl], bvals_oneCell _, ?_, ?_, ?_, bvals_oneCell _, ?_, ?_, ?_⟩
 ·intro h
  subst h
  rcases ov.2 with ⟨h', h0⟩ | ⟨g', cap', cur', h', _⟩
  ·simp only [Value.slice.injEq] at h'
   exact ⟨h'.2.1, h'.2.2⟩
  simp at h'
 ·intro h0
  obtain ⟨gv, rfl, hbv, _⟩ := owns_head ov h0
  obtain ⟨_, hmc, cv, R', hcv⟩ := Row.of ov
  exact ⟨gv, cv.toArray, rfl, by omega, R'.h, by simpa using R'.len, by simpa using hcv⟩
 ·rw [length_bvals, List.length_drop, hll]; omega
 ·intro j u hu
  rw [← bvals_drop, List.getElem?_drop] at hu
  rw [← hcur, List.getElem?_take] at hu
  split at hu
  ·exact hu
  cases hu
 ·unfold repB
  rw [bvals_append, bvals_append, take_cut hcur (Nat.mul_le_mul_right 3 (show i ≤ N + 1 by omega)), bvals_take]
 rw [take_cut hcur (Nat.mul_le_mul_right 3 (show i ≤ N + 1 by omega)), bvals_take]
theorem RepIn.src {w : World} {base g N cap i m vc : Nat} {vo : Option Addr} {l vl : List Bk} {cur vs XS : List Value} (h : RepIn w base g N cap i m vc vo l vl cur vs XS) {W : World} (hb : ∀ k, k < w.heap.size → k ≠ g → W.heap[k]? = w.heap[k]?) (h0 : 0 < m) :
    ∃ ad, vo = some ad ∧ ∀ j v, vs[j]? = some v → W.cell? (ad.add j) = some v := by
 obtain ⟨gv, cv, rfl, hne, hg, hs, ht⟩ := h.vat h0
 refine ⟨_, rfl, fun j v hj => ?_⟩
 have hlt := (Array.getElem?_eq_some_iff.1 hg).1
 rw [add_at, Nat.zero_add, cell_of_row _ _ _ _ _ _ ((hb gv hlt hne).trans hg)]
 rw [← ht, List.getElem?_take] at hj
 split at hj
 ·simpa using hj
 cases hj
theorem ov_false' (w : World) (g off lb cb gv la ca : Nat) (cur : List Value) (cv : Array Value) (cap : Nat) (R : Row w 53 3 g cap cur) (hv : w.heap[gv]? = some (.cells cv 53 (0, 0))) (hne : gv ≠ g) (hc : 0 < cv.size) :
    (callFunc 67 #[.slice (some ⟨g, off, none⟩) lb cb, .slice (some ⟨gv, 0, none⟩) la ca]).run Tryz.prog w = .ok (.value (.bool false)) w := by
 have hz : ∀ w, (Go.sizeOf 53).run Tryz.prog w = .ok 3 w := fun w => Tryz.sizeOf53 w
 rw [run_callFunc_extern Tryz.func67 (by kernel_rfl) (by kernel_rfl) (by kernel_rfl) (e := Extern.SlicesOverlaps.overlaps #[25, 25] #[4]) (by kernel_rfl),
  Lib.run_overlaps_apart w 25 4 53 Tryz.underlying25 3 hz ⟨g, off, none⟩ ⟨gv, 0, none⟩ lb cb la ca (Ne.symm hne) 53 53 (cap * 3) cv.size (by simp [World.shape?, R.h, R.len]) (by simp [World.shape?, hv]) (by omega) (by have := R.h; simp [World.frozen?, this]) (by have := R.h; simp [World.frozen?, this])]
 rfl
theorem bRep_shift (w : World) (base g N cap i m vc : Nat) (vo : Option Addr) (l vl : List Bk) (cur vs XS : List Value) (h : RepIn w base g N cap i m vc vo l vl cur vs XS) (hi : i < N) (hm : 2 ≤ m) (hroom : N + m ≤ cap) :
    Calls Tryz.prog 90 #[.slice (some ⟨g, 0, none⟩) (N + 1) cap, .int .i64 i, .int .i64 ((i : Int) + 1), .slice vo m vc] w fun e w' => RetRow w w' base g (N + m) (repB l i vl) e := by
 obtain ⟨gv, cv, rfl, hne, hv, hvs, hvt⟩ := h.vat (by omega)
 have R := h.row
 have hM := R.m
 unfold maxLen at hM
 have hRl := R.len
 have hvl := h.vsl
 have hxl := h.xl
 have hN := h.N3
 have hm4 := h.m4
 have hcv : 0 < cv.size := by have h1 := congrArg List.length hvt; rw [List.length_take, hvl, Array.length_toList] at h1; omega
 have hov : ∀ d off lb cb, (callFunc 67 #[.slice (some ⟨g, off, none⟩) lb cb, .slice (some ⟨gv, 0, none⟩) m vc]).run Tryz.prog (w.drewN d) = .ok (.value (.bool false)) (w.drewN d) := fun d off lb cb => ov_false' _ g off lb cb gv m vc cur cv cap (R.below (below_drawn d)) (((below_drawn d).block gv (Array.getElem?_eq_some_iff.1 hv).1).trans hv) hne hcv
 have b1 : ((i : Int) == (i : Int) + 1) = false := by simp; omega
 have b2 : ((i : Int) + 1 == (N : Int) + 1) = false := by simp; omega
 have b3 : (i : Int) + 1 ≤ (N : Int) + 1 := by omega
 have b4 : ((i : Int) + 1).toNat = i + 1 := by omega
 have b5 : (0 : Int) ≤ (i : Int) + 1 := by omega
 have b6 : IntKind.i64.wrap ((i : Int) + m) = (i : Int) + m := IntWalk.i64_in _ (by omega)
 have b7 : ((i : Int) + m).toNat = i + m := by omega
 have b8 : (0 : Int) ≤ (i : Int) + m := by omega
 have b9 : (i : Int) + m ≤ (i : Int) + m + ((N - i : Nat) : Int) := by omega
 have b10 : ¬ (cap = i + m) := by omega
 have b11 : ¬ (cap = i + 1) := by omega
 have b12 : ¬ (cap = i) := by omega
 have hsum : i + m + (N - i) = N + m := by omega
 have HS : Hid _ := hsum
 clear hsum
 have H : Hid _ := h
 clear h hvt
 go_enter Tryz.func90, Tryz.ntmps90
 go_wp2_with fail
 go_quiet (fail)
 go_wp2_with (simp only [hov])
 have RD := R.below ((below_drawn (w := w) nq).drew)
 have hbd : Below w.heap.size w ((w.drewN nq).drew) := (below_drawn (w := w) nq).drew
 clear hov
 go_region_law (refine step_copy_k rfl (.tmp 126) (.tmp 129) 25 25 rfl 53 3 Tryz.underlying25 size_block (some ⟨g, (i + m) * 3, none⟩) (some ⟨g, (i + 1) * 3, none⟩) (N - i) (cap - (i + m)) (N - i) (cap - (i + 1)) (by simp [Act.eval, Act.put]) (by simp [Act.eval, Act.put]) g ((i + m) * 3) cur 53 RD.h XS (N - i) (by simp only [Nat.min_def]; split <;> omega) hxl (fun _ => ⟨rfl, _, rfl, fun j v hj => by rw [add_at, RD.cell]; exact H.out.xat j v hj⟩) (by omega) H.out.x1 ?_; intro w1 hg1 hb1)
 all_goals
  have hK : ∀ k, k < w.heap.size → k ≠ g → w1.heap[k]? = w.heap[k]? := fun k hk hne => (hb1.block k (by have := hbd.size; omega) hne).trans (hbd.block k hk)
  clear RD
  go_wp2_with (refine wpList_copy_k rfl (.tmp 133) (.tmp 134) 25 25 rfl 53 3 Tryz.underlying25 size_block _ _ _ _ _ _ rfl rfl g (i * 3) (splice cur ((i + m) * 3) XS) 53 hg1.out vs m (by simp only [Nat.min_def]; split <;> omega) hvl (fun _ => ⟨rfl, H.out.src hK (by omega)⟩) (by rw [length_splice _ _ _ (by omega)]; omega) H.out.v1 ?_; intro w2 hg2 hb2)
  go_ret
  have e3 : (i + m) * 3 = i * 3 + vs.length := by omega
  have hl2 : (splice (splice cur ((i + m) * 3) XS) (i * 3) vs).length = cap * 3 := by rw [length_splice _ _ _ (by rw [length_splice _ _ _ (by omega)]; omega), length_splice _ _ _ (by omega)]; exact hRl
  have R2 : Row w2 53 3 g cap (splice (splice cur ((i + m) * 3) XS) (i * 3) vs) := ⟨hg2.out, hl2, R.m⟩
  rw [HS.out]
  refine ⟨g, cap, rfl, R2.owns H.out.bg hroom ?_, ((But.of_below hbd).trans hb1).trans hb2, .inl rfl⟩
  rw [H.out.out, e3, show (N + m) * 3 = i * 3 + vs.length + XS.length by omega]
  exact splice_two_b (by omega)
theorem bRep_less (w : World) (base g N cap i m vc : Nat) (vo : Option Addr) (l vl : List Bk) (cur vs XS : List Value) (h : RepIn w base g N cap i m vc vo l vl cur vs XS) (hi : i < N) (hm : m ≤ 1) :
    Calls Tryz.prog 90 #[.slice (some ⟨g, 0, none⟩) (N + 1) cap, .int .i64 i, .int .i64 ((i : Int) + 1), .slice vo m vc] w fun e w' => RetRow w w' base g (N + m) (repB l i vl) e := by
 have R := h.row
 have hM := R.m
 unfold maxLen at hM
 have hRl := R.len
 have hvl := h.vsl
 have hxl := h.xl
 have hN := h.N3
 have hle := h.le
 have hroom : N + m ≤ cap := by omega
 have b1 : ((i : Int) == (i : Int) + 1) = false := by simp; omega
 have b2 : ((i : Int) + 1 == (N : Int) + 1) = false := by simp; omega
 have b3 : (i : Int) + 1 ≤ (N : Int) + 1 := by omega
 have b4 : ((i : Int) + 1).toNat = i + 1 := by omega
 have b5 : (0 : Int) ≤ (i : Int) + 1 := by omega
 have b6 : IntKind.i64.wrap ((i : Int) + m) = (i : Int) + m := IntWalk.i64_in _ (by omega)
 have b7 : ((i : Int) + m).toNat = i + m := by omega
 have b8 : (0 : Int) ≤ (i : Int) + m := by omega
 have b9 : (i : Int) + m ≤ (i : Int) + m + ((N - i : Nat) : Int) := by omega
 have b10 : ¬ (cap = i + m) := by omega
 have b11 : ¬ (cap = i + 1) := by omega
 have b12 : ¬ (cap = i) := by omega
 have b13 : (i : Int) + m ≤ (i : Int) + 1 := by omega
 have b14 : (i : Int) + m + ((N - i : Nat) : Int) ≤ (N : Int) + 1 := by omega
 have hsum : i + m + (N - i) = N + m := by omega
 have HS : Hid _ := hsum
 have H : Hid _ := h
 clear h hsum
 go_enter Tryz.func90, Tryz.ntmps90
 go_wp2_with fail
 go_quiet (fail)
 have RD := R.below (below_drawn (w := w) nq)
 have hbd : Below w.heap.size w (w.drewN nq) := below_drawn (w := w) nq
 have hK : ∀ k, k < w.heap.size → k ≠ g → (w.drewN nq).heap[k]? = w.heap[k]? := fun k hk hne => hbd.block k hk
 go_wp2_with (refine wpList_copy_k rfl (.tmp 95) (.tmp 96) 25 25 rfl 53 3 Tryz.underlying25 size_block _ _ _ _ _ _ rfl rfl g (i * 3) cur 53 RD.h vs m (by simp only [Nat.min_def]; split <;> omega) hvl (fun h0 => ⟨rfl, H.out.src hK h0⟩) (by omega) H.out.v1 ?_; intro w1 hg1 hb1)
 have hR1 : Row w1 53 3 g cap (splice cur (i * 3) vs) := ⟨hg1.out, by rw [length_splice _ _ _ (by omega)]; exact hRl, R.m⟩
 have hR1d := hR1.below (Below.refl _ _).drew
 have hX : ∀ j v, XS[j]? = some v → (splice cur (i * 3) vs)[(i + 1) * 3 + j]? = some v := fun j v hj => by
  have h1 := H.out.xat j v hj
  unfold splice
  rw [List.getElem?_append_right (by rw [List.length_take]; omega), List.getElem?_append_right (by rw [List.length_take]; omega), List.getElem?_drop]
  rw [← h1]
  congr 1
  rw [List.length_take]
  omega
 have HX : Hid _ := hX
 clear hX hK
 go_region_law (refine step_copy_k rfl (.tmp 103) (.tmp 106) 25 25 rfl 53 3 Tryz.underlying25 size_block (some ⟨g, (i + m) * 3, none⟩) (some ⟨g, (i + 1) * 3, none⟩) (N - i) (cap - (i + m)) (N - i) (cap - (i + 1)) (by simp [Act.eval, Act.put]) (by simp [Act.eval, Act.put]) g ((i + m) * 3) (splice cur (i * 3) vs) 53 hR1d.h XS (N - i) (by simp only [Nat.min_def]; split <;> omega) hxl (fun _ => ⟨rfl, _, rfl, fun j v hj => by rw [add_at, hR1d.cell]; exact HX.out j v hj⟩) (by rw [length_splice _ _ _ (by omega)]; omega) H.out.x1 ?_; intro w2 hg2 hb2)
 all_goals
  have hl2 : (splice (splice cur (i * 3) vs) ((i + m) * 3) XS).length = cap * 3 := by rw [length_splice _ _ _ (by rw [length_splice _ _ _ (by omega)]; omega), length_splice _ _ _ (by omega)]; exact hRl
  clear hR1d HX hR1
  by_cases hq0 : cap = i + m + (N - i)
  ·have hq : (cap = i + m + (N - i)) = True := eq_true hq0
   have HQ : Hid _ := hq0
   clear hq0
   go_wp2_with (refine wpList_clear_k rfl (.tmp 110) 25 rfl 53 _ 3 Tryz.underlying25 zero_block rfl zero_one _ _ _ rfl g ((N + m) * 3) (splice (splice cur (i * 3) vs) ((i + m) * 3) XS) hg2.out (fun h0 => by exfalso; have := HS.out; have := HQ.out; omega) (by have := HS.out; have := HQ.out; omega) ?_; intro w3 cur3 hg3 hb3)
   go_ret
   obtain ⟨g1, g2, g3⟩ := hg3.out
   have e3 : (i + m) * 3 = i * 3 + vs.length := by omega
   have R2 : Row w3 53 3 g cap cur3 := ⟨g1, by rw [g2]; exact hl2, R.m⟩
   rw [HS.out]
   refine ⟨g, cap, rfl, R2.owns H.out.bg hroom ?_, (((But.of_below hbd).trans hb1).trans ((But.of_below (Below.refl _ _).drew).trans hb2)).trans hb3, .inl rfl⟩
   rw [g3, H.out.out, e3, show (N + m) * 3 = i * 3 + vs.length + XS.length by omega]
   exact splice_two_a (by omega)
  go_wp2_with (refine wpList_clear_k rfl (.tmp 110) 25 rfl 53 _ 3 Tryz.underlying25 zero_block rfl zero_one _ _ _ rfl g ((N + m) * 3) (splice (splice cur (i * 3) vs) ((i + m) * 3) XS) hg2.out (fun _ => by rw [HS.out]) (by have := HS.out; omega) ?_; intro w3 cur3 hg3 hb3)
  go_ret
  obtain ⟨g1, g2, g3⟩ := hg3.out
  have e3 : (i + m) * 3 = i * 3 + vs.length := by omega
  have R2 : Row w3 53 3 g cap cur3 := ⟨g1, by rw [g2]; exact hl2, R.m⟩
  rw [HS.out]
  refine ⟨g, cap, rfl, R2.owns H.out.bg hroom ?_, (((But.of_below hbd).trans hb1).trans ((But.of_below (Below.refl _ _).drew).trans hb2)).trans hb3, .inl rfl⟩
  rw [g3, H.out.out, e3, show (N + m) * 3 = i * 3 + vs.length + XS.length by omega]
  exact splice_two_a (by omega)
theorem bRep_grow (w : World) (base g N cap i m vc : Nat) (vo : Option Addr) (l vl : List Bk) (cur vs XS : List Value) (h : RepIn w base g N cap i m vc vo l vl cur vs XS) (hi : i < N) (hroom : cap < N + m) :
    Calls Tryz.prog 90 #[.slice (some ⟨g, 0, none⟩) (N + 1) cap, .int .i64 i, .int .i64 ((i : Int) + 1), .slice vo m vc] w fun e w' => RetRow w w' base g (N + m) (repB l i vl) e := by
 obtain ⟨i1, hj, hy0, hy1, hy2⟩ := info_parts info_block
 have R := h.row
 have hM := R.m
 unfold maxLen at hM
 have hRl := R.len
 have hvl := h.vsl
 have hxl := h.xl
 have hN := h.N3
 have hm4 := h.m4
 have hle := h.le
 have b1 : ((i : Int) == (i : Int) + 1) = false := by simp; omega
 have b2 : ((i : Int) + 1 == (N : Int) + 1) = false := by simp; omega
 have b3 : (i : Int) + 1 ≤ (N : Int) + 1 := by omega
 have b4 : ((i : Int) + 1).toNat = i + 1 := by omega
 have b5 : (0 : Int) ≤ (i : Int) + 1 := by omega
 have b6 : IntKind.i64.wrap ((i : Int) + m) = (i : Int) + m := IntWalk.i64_in _ (by omega)
 have b7 : ((i : Int) + m).toNat = i + m := by omega
 have b8 : (0 : Int) ≤ (i : Int) + m := by omega
 have b9 : (i : Int) + m ≤ (i : Int) + m + ((N - i : Nat) : Int) := by omega
 have b11 : ¬ (cap = i + 1) := by omega
 have b12 : ¬ (cap = i) := by omega
 have b13 : (cap : Int) < (i : Int) + m + ((N - i : Nat) : Int) := by omega
 obtain ⟨K, hK⟩ : ∃ K : Nat, (i : Int) + m + ((N - i : Nat) : Int) - i = (K : Int) := ⟨m + (N - i), by omega⟩
 have hKn : K = m + (N - i) := by omega
 have hgr : ∀ W : World, Below w.heap.size w W → W.heap.size = w.heap.size → _ := fun W hW hWs => grow_zeros (P := Tryz.prog) W 25 3 25 53 i1 _ 3 .i64 .i64 Tryz.underlying25 Tryz.underlying3 hj hy0 hy1 (by omega) rfl ⟨g, 0, none⟩ i cap (cur.take (i * 3)) (by rw [List.length_take]; omega) (fun j v hj => by
  rw [add_at, Nat.zero_add, (R.below hW).cell]
  rw [List.getElem?_take] at hj
  split at hj
  ·exact hj
  cases hj) K (by omega) (by omega) (by unfold maxLen; omega) (by rw [hy2]; omega)
 have HG : Hid _ := hgr
 have HKN : Hid _ := hKn
 have H : Hid _ := h
 clear h hgr hKn
 go_enter Tryz.func90, Tryz.ntmps90
 go_wp2_with fail
 go_quiet (fail)
 have hbd : Below w.heap.size w (w.drewN nq) := below_drawn (w := w) nq
 obtain ⟨cap', W, cur', hrun, R', ht, hc', hb'⟩ := HG.out (w.drewN nq) hbd (by simp)
 have hiK : i + K = N + m := by have := HKN.out; omega
 have HR : Hid _ := hrun
 have HIK : Hid _ := hiK
 have hcl' := R'.len
 have hsd : (w.drewN nq).heap.size = w.heap.size := by simp
 rw [hsd] at R' hb'
 have hbW : Below w.heap.size w W := hbd.trans (hb'.mono (by omega))
 have RW := R.below hbW
 have c1 : ¬ (cap' = i) := by omega
 have c2 : ¬ (cap' = i + m) := by omega
 have hKs : ∀ k, k < w.heap.size → k ≠ g → W.heap[k]? = w.heap[k]? := fun k hk hne => hbW.block k hk
 clear hrun HG hiK
 go_wp2_with (first
  | (at_builtin; refine Lib.wpList_append_run _ rfl (.tmp 63) (.tmp 66) 25 3 rfl _ _ rfl rfl _ _ HR.out ?_)
  | (refine wpList_copy_k rfl (.tmp 70) (.tmp 71) 25 25 rfl 53 3 Tryz.underlying25 size_block _ _ _ _ _ _ rfl rfl w.heap.size (i * 3) cur' 53 R'.h vs m (by have := HKN.out; simp only [Nat.min_def]; split <;> omega) hvl (fun h0 => ⟨by simp, H.out.src hKs h0⟩) (by have := HIK.out; omega) H.out.v1 ?_; intro w2 hg2 hb2))
 have RD := (RW.but hb2 (by have := R.lt; omega)).below (Below.refl w2.heap.size w2).drew
 have hgd : w2.drew.heap[w.heap.size]? = some (.cells (splice cur' (i * 3) vs).toArray 53 (0, 0)) := hg2.out
 have b14 : (i : Int) + m ≤ (i : Int) + K := by have := HKN.out; omega
 have b15 : (m : Int) ≤ (K : Int) := by have := HKN.out; omega
 go_region_law (refine step_copy_k rfl (.tmp 78) (.tmp 81) 25 25 rfl 53 3 Tryz.underlying25 size_block (some ⟨w.heap.size, (i + m) * 3, none⟩) (some ⟨g, (i + 1) * 3, none⟩) (i + K - (i + m)) (cap' - (i + m)) (N - i) (cap - (i + 1)) (by simp [Act.eval, Act.put]) (by simp [Act.eval, Act.put]) w.heap.size ((i + m) * 3) (splice cur' (i * 3) vs) 53 hgd XS (N - i) (by have := HKN.out; simp only [Nat.min_def]; split <;> omega) hxl (fun _ => ⟨rfl, _, rfl, fun j v hj => by rw [add_at, RD.cell]; exact H.out.xat j v hj⟩) (by have := HIK.out; rw [length_splice _ _ _ (by omega)]; omega) H.out.x1 ?_; intro w3 hg3 hb3)
 all_goals
  clear RD
  have hik := HIK.out
  go_wp2_with fail
  go_ret
  have e3 : (i + m) * 3 = i * 3 + vs.length := by omega
  have hl2 : (splice (splice cur' (i * 3) vs) ((i + m) * 3) XS).length = cap' * 3 := by rw [length_splice _ _ _ (by rw [length_splice _ _ _ (by omega)]; omega), length_splice _ _ _ (by omega)]; exact hcl'
  have R2 : Row w3 53 3 w.heap.size cap' (splice (splice cur' (i * 3) vs) ((i + m) * 3) XS) := ⟨hg3.out, hl2, R'.m⟩
  try rw [HIK.out]
  refine ⟨w.heap.size, cap', rfl, R2.owns (by have := H.out.bg; have := R.lt; omega) (by omega) ?_, ?_, .inr (Nat.le_refl _)⟩
  ·rw [H.out.out, e3, show (N + m) * 3 = i * 3 + vs.length + XS.length by omega, splice_two_a (by omega), ht]
  have hbl : Below w.heap.size w w3 := hbW.trans ((hb2.trans ((But.of_below (Below.refl _ _).drew).trans hb3)).below (Nat.le_refl _) hbW.size)
  exact .of_below hbl
theorem grown_but {w w' : World} {g : Nat} (h : w.grownBy w' (some g)) : But g w w' :=
 ⟨h.os, h.tape, h.output, h.size, fun k hk hne => h.block k hk (by intro g; exact hne (by simpa using g))⟩
theorem bRep_end (w : World) (base g N cap i m vc : Nat) (vo : Option Addr) (l vl : List Bk) (cur vs XS : List Value) (h : RepIn w base g N cap i m vc vo l vl cur vs XS) (hi : i = N) :
    Calls Tryz.prog 90 #[.slice (some ⟨g, 0, none⟩) (N + 1) cap, .int .i64 i, .int .i64 ((i : Int) + 1), .slice vo m vc] w fun e w' => RetRow w w' base g (N + m) (repB l i vl) e := by
 obtain ⟨i1, hj, hy0, hy1, hy2⟩ := info_parts info_block
 subst hi
 have R := h.row
 have hM := R.m
 have hml : i + m ≤ maxLen := by have := h.N3; have := h.m4; unfold maxLen; omega
 unfold maxLen at hM
 have hRl := R.len
 have hvl := h.vsl
 have hN := h.N3
 have hm4 := h.m4
 have hle := h.le
 have hX : XS = [] := List.eq_nil_of_length_eq_zero (by rw [h.xl]; omega)
 have HO : Hid (bvals (repB l i vl) = bvals (l.take i) ++ vs) := by show _ = _; rw [h.out, h.tk, hX, List.append_nil]
 have own : w.ownsRow base 53 3 (.slice (some ⟨g, 0, none⟩) i cap) i (bvals (l.take i)) := R.owns h.bg (by omega) h.tk
 have hv0 := h.v0
 have hv1 := h.v1
 have hsrc : ∀ ad, vo = some ad → ∀ j u, vs[j]? = some u → w.cell? (ad.add j) = some u := fun ad he j u hu => by
  by_cases h0 : 0 < m
  ·obtain ⟨ad', he', hc⟩ := h.src (W := w) (fun k _ _ => rfl) h0
   rw [he] at he'
   cases he'
   exact hc j u hu
  have : vs = [] := List.eq_nil_of_length_eq_zero (by rw [hvl]; omega)
  rw [this] at hu
  cases hu
 have hbg := h.bg
 have b1 : ((i : Int) == (i : Int) + 1) = false := by simp; omega
 have b2 : ((i : Int) + 1 == (i : Int) + 1) = true := by simp
 have b3 : (i : Int) + 1 ≤ (i : Int) + 1 := by omega
 have b4 : ((i : Int) + 1).toNat = i + 1 := by omega
 have b5 : (0 : Int) ≤ (i : Int) + 1 := by omega
 have b12 : ¬ (cap = i) := by omega
 have HV0 : Hid _ := hv0
 have HSRC : Hid _ := hsrc
 clear h hX hv0 hsrc
 by_cases hroom : i + m ≤ cap
 ·by_cases h0 : m = 0
  ·subst h0
   go_enter Tryz.func90, Tryz.ntmps90
   go_wp2_with (first
    | (at_builtin; refine wpList_append_fits_any _ rfl (.tmp 32) (.tmp 33) 25 rfl base 53 i1 3 Tryz.underlying25 hj hy1 g i cap (bvals (l.take i)) rfl own vo 0 vc vs rfl hvl HV0.out HSRC.out hv1 hroom ?_; intro w1 ho1 hb1; obtain ⟨_, _, cur1, R1, hcur1⟩ := Row.of ho1; have hl1 := R1.len)
    | (refine wpList_clear_k rfl (.tmp 43) 25 rfl 53 _ 3 Tryz.underlying25 zero_block rfl zero_one _ _ _ rfl g (i * 3) cur1 R1.h (fun _ => rfl) (by omega) ?_; intro w2 cur2 hg2 hb2))
   go_ret
   obtain ⟨g1, g2, g3⟩ := hg2.out
   have R2 : Row w2 53 3 g cap cur2 := ⟨g1, by rw [g2]; exact hl1, R1.m⟩
   exact ⟨g, cap, rfl, R2.owns hbg (by omega) (by rw [HO.out, ← hcur1]; exact g3), (grown_but hb1).trans hb2, .inl rfl⟩
  have c1 : ((i : Int) + m < (i : Int) + 1) = False := eq_false (by omega)
  go_enter Tryz.func90, Tryz.ntmps90
  go_wp2_with (at_builtin; refine wpList_append_fits_any _ rfl (.tmp 32) (.tmp 33) 25 rfl base 53 i1 3 Tryz.underlying25 hj hy1 g i cap (bvals (l.take i)) rfl own vo m vc vs rfl hvl HV0.out HSRC.out hv1 hroom ?_; intro w1 ho1 hb1)
  all_goals
   go_ret
   exact ⟨g, cap, rfl, by rw [HO.out]; exact ho1, grown_but hb1, .inl rfl⟩
 have h0 : 0 < m := by omega
 cases vo with
 | none => have := HV0.out rfl; omega
 | some ad =>
  have hold : ∀ j v, (bvals (l.take i))[j]? = some v → w.cell? ((⟨g, 0, none⟩ : Addr).add j) = some v := own.cells rfl
  obtain ⟨cap', W, cur', hrun, R', ht, hc', hb'⟩ := grow_some (P := Tryz.prog) w 25 25 53 i1 _ 3 Tryz.underlying25 hj hy0 hy1 rfl ⟨g, 0, none⟩ i cap (bvals (l.take i)) own.1 hold ad m vc vs hvl (HSRC.out ad rfl) (by omega) hml (by rw [hy2]; omega)
  have ow' := R'.owns (base := base) (n := i + m) (by have := R.lt; omega) hc' ht
  have HR : Hid _ := hrun
  have c1 : ((i : Int) + m < (i : Int) + 1) = False := eq_false (by omega)
  clear hrun
  go_enter Tryz.func90, Tryz.ntmps90
  go_wp2_with (at_builtin; refine Lib.wpList_append_run _ rfl (.tmp 32) (.tmp 33) 25 25 rfl _ _ rfl rfl _ _ HR.out ?_)
  all_goals
   go_ret
   exact ⟨w.heap.size, cap', rfl, by rw [HO.out]; exact ow', .of_below hb', .inr (Nat.le_refl _)⟩
theorem bRep_any (w : World) (base g N cap i m vc bv : Nat) (vo : Option Addr) (l vl : List Bk) (hi : i ≤ N) (hN : N ≤ 300) (hm : m ≤ 4) (own : w.ownsRow base 53 3 (.slice (some ⟨g, 0, none⟩) (N + 1) cap) (N + 1) (bvals l)) (ov : w.ownsRow bv 53 3 (.slice vo m vc) m (bvals vl)) (hne : g < bv) :
    Calls Tryz.prog 90 #[.slice (some ⟨g, 0, none⟩) (N + 1) cap, .int .i64 i, .int .i64 ((i : Int) + 1), .slice vo m vc] w fun e w' => RetRow w w' base g (N + m) (repB l i vl) e := by
 obtain ⟨cur, vs, XS, h⟩ := repIn w base g N cap i m vc vo l vl hi hN hm own bv ov hne
 by_cases h1 : i = N
 ·exact bRep_end w base g N cap i m vc vo l vl cur vs XS h h1
 by_cases h2 : cap < N + m
 ·exact bRep_grow w base g N cap i m vc vo l vl cur vs XS h (by omega) h2
 by_cases h3 : m ≤ 1
 ·exact bRep_less w base g N cap i m vc vo l vl cur vs XS h (by omega) h3
 exact bRep_shift w base g N cap i m vc vo l vl cur vs XS h (by omega) (by omega) (by omega)
theorem blk_end {t a o : Int} (ho : ordOk o) (h1 : a ≤ t - 1) (h2 : a % pw o = 0) (h3 : t % 16 = 0) : a + pw o ≤ t := by
 rcases ord_cases ho with ⟨rfl, e⟩ | ⟨rfl, e⟩ | ⟨rfl, e⟩ | ⟨rfl, e⟩ | ⟨rfl, e⟩ <;> rw [e] at h2 ⊢ <;> omega
theorem own_at {w : World} {base g n cap : Nat} {l : List Bk} (h : w.ownsRow base 53 3 (.slice (some ⟨g, 0, none⟩) n cap) n (bvals l)) {i : Nat} (hi : i < n) {a o t : Int} (hb : l.getD i .zero = ⟨a, o, t⟩) :
    w.cell? ⟨g, i * 3, none⟩ = some (.int .i64 a) ∧ w.cell? ⟨g, i * 3 + 1, none⟩ = some (.int .i64 o) ∧ w.cell? ⟨g, i * 3 + 2, none⟩ = some (.int .i64 t) := by
 obtain ⟨b, off, e, h1, h2, h3⟩ := blks_of_owns h i (by rw [bowns_len h]; exact hi)
 simp only [Option.some.injEq, Addr.mk.injEq, and_true] at e
 obtain ⟨rfl, rfl⟩ := e
 rw [hb] at h1 h2 h3
 simp only [Nat.zero_add] at h1 h2 h3
 exact ⟨h1, h2, h3⟩
theorem tbox_new' (W : World) (q : Bk) (t : TypeId) : (W.alloc (.cells #[.int .i64 q.a, .int .i64 q.o, .int .i64 q.t] t)).cell? ⟨W.heap.size, 0, none⟩ = some (.int .i64 q.a) ∧ (W.alloc (.cells #[.int .i64 q.a, .int .i64 q.o, .int .i64 q.t] t)).cell? ⟨W.heap.size, 1, none⟩ = some (.int .i64 q.o) ∧ (W.alloc (.cells #[.int .i64 q.a, .int .i64 q.o, .int .i64 q.t] t)).cell? ⟨W.heap.size, 2, none⟩ = some (.int .i64 q.t) := ⟨by simp, by simp, by simp⟩
theorem HB6s (z : Zn) (F L : Nat) (t : Int) {i : Nat} {ba bo bt : Int} (hb : z.free.getD i .zero = ⟨ba, bo, bt⟩) (hi : i < z.free.length) (hF : (ba - z.f) / 8 = (F : Int)) (hL : (ba + pw bo - 1 - z.f) / 8 = (L : Int)) : (z.free.map (stealB z.f F L t)).getD i .zero = ⟨ba, bo, t⟩ := by
 rw [map_getD _ hi, hb]
 have hp := pw_pos bo
 unfold stealB
 dsimp only
 rw [if_pos ⟨by omega, by omega⟩]
structure TkF (zb bb g n cap : Nat) (ba bo t : Int) (W : World) : Prop where
 c : W.cell? ⟨zb, 2, none⟩ = some (.slice (some ⟨g, 0, none⟩) n cap)
 e0 : W.cell? ⟨bb, 0, none⟩ = some (.int .i64 ba)
 e1 : W.cell? ⟨bb, 1, none⟩ = some (.int .i64 bo)
 e2 : W.cell? ⟨bb, 2, none⟩ = some (.int .i64 t)
theorem TkF.below {zb bb g n cap : Nat} {ba bo t : Int} {W W' : World} (h : TkF zb bb g n cap ba bo t W) (hb : Below W.heap.size W W') : TkF zb bb g n cap ba bo t W' := ⟨keep h.c hb, keep h.e0 hb, keep h.e1 hb, keep h.e2 hb⟩
theorem TkF.but {zb bb g n cap c : Nat} {ba bo t : Int} {W W' : World} (h : TkF zb bb g n cap ba bo t W) (hb : But c W W') (h1 : zb ≠ c) (h2 : bb ≠ c) : TkF zb bb g n cap ba bo t W' := ⟨hb.cell h.c h1, hb.cell h.e0 h2, hb.cell h.e1 h2, hb.cell h.e2 h2⟩
end Go.Proofs.YtbjlbmofdnkmiaaGreatDoor
