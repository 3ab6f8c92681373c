/-
  OWN TEXTS.
-/
import Derived.Test.YtbjlbmofdnkmiaaGreatDoorPagesAllocsPart13
set_option maxRecDepth 10000
set_option maxHeartbeats 4000000
namespace Go.Proofs.YtbjlbmofdnkmiaaGreatDoor
open Go Go.RowKit Go.Proofs.YtbjlbmofdnkmiaaGreatDoor.Kit
structure HRestV (w : World) (y : Hx) : Prop where
 zones : Zons w y.zo y.zn y.zs
 mins : Nums w y.mo y.mn y.mins
 lists : Lsts w y.lo y.ln y.ls
theorem HRestV.of {w : World} {y : Hx} (h : y.At w) : HRestV w y := ⟨h.zones, h.mins, h.lists⟩
theorem HRestV.below {w w' : World} {y : Hx} (h : HRestV w y) (hb : Below w.heap.size w w') : HRestV w' y := ⟨h.zones.below hb, h.mins.below hb, h.lists.below hb⟩
theorem HRestV.but {w w' : World} {b : Nat} {y : Hx} (h : HRestV w y) (hb : But b w w') (a : AwayP b y) (z : ∀ c, y.zo = some c → c.block ≠ b) : HRestV w' y := by
 refine ⟨zons_but h.zones hb (fun _ => z) a.f a.t, nums_but h.mins hb a.m, ⟨h.lists.len, h.lists.reach, ?_, fun l hl => nums_but (h.lists.at_ l hl) hb (a.p l hl)⟩⟩
 by_cases e : 0 < y.ls.length
 ·exact h.lists.cells.but hb (a.l e)
 intro i hi; rw [List.length_map] at hi; omega
def Kit.Hx.withB (y : Hx) (l : List Bk) (vo : Option Addr) (vn vc : Nat) : Hx := { y with live := l, vo := vo, vn := vn, vc := vc }
theorem HRestV.at_ {w : World} {y : Hx} (h : HRestV w y) {B : Nat} {l : List Bk} {vo : Option Addr} {vn vc : Nat} (ov : w.ownsRow B 53 3 (.slice vo vn vc) vn (bvals l)) (hr : vn * 24 ≤ 140737488351232) : (y.withB l vo vn vc).At w :=
 ⟨h.zones, h.mins, h.lists, blks_own ov hr⟩
theorem bs_blk1 (a b c : Value) (w : World) : (Instr.buildSlice 25 1 #[(0, .agg #[a, b, c])]).run Tryz.prog w = .ok (.slice (some ⟨w.heap.size, 0, none⟩) 1 1) (w.alloc (.cells #[a, b, c] 53)) := by
 simp [go_sem]
theorem pAddLiveF_c (w : World) (b : Bk) (g : Nat) (p : Int) (hq : St w ⟨g, 0, none⟩ (.int .i64 p)) :
    Calls Tryz.prog 41 #[.agg #[.int .i64 b.a, .int .i64 b.o, .int .i64 b.t], .pointer (some ⟨g, 0, none⟩)] w fun e w' => e = .returned (.bool (decide (b.a > p))) ∧ Below w.heap.size w w' := by
 have B0 := Below.refl w.heap.size w
 refine sx_enter (args := [_, _]) 9 Tryz.func41 rfl rfl rfl ?_
 refine vS (vR ?_); intro A f
 refine l_box f rfl rfl rfl rfl rfl ?_; clear f A; intro b1 W2 eb1 hb3 rb1 A f; dsimp only [Value.cells] at rb1
 have z_B0_b1 := B0.size; rw [eb1] at z_B0_b1
 replace B0 := Below.next B0 hb3
 revert A; refine vla (h:=vW (vS (vR (vlf (h:=vl1 (rowq rb1) (h:=vlf (h:=vld (y_load1 rfl rfl (ag rfl) (St.q hq B0)) (h:=vld (y_gtr rfl rfl rfl) (h:=vla (h:=vW (vE ?_))))))))))); intro A f
 refine x_ret1 f rfl rfl ?_
 exact ⟨rfl, B0⟩
theorem liveIdx (w : World) (vo : Option Addr) (vn vc g : Nat) (l : List Bk) (p : Int) (hb : Blks w vo vn l) (hq : St w ⟨g, 0, none⟩ (.int .i64 p)) :
    Calls Tryz.prog 40 #[.slice vo vn vc, .func (.func 41) #[] #[.pointer (some ⟨g, 0, none⟩)]] w fun e w' => FoundAt e l (fun b => decide (b.a > p)) ∧ Below w.heap.size w w' :=
 bIndex_any w 41 #[.pointer (some ⟨g, 0, none⟩)] vo vn vc l _ hb (fun args W => pl rfl args W) (fun i _ W hW => pAddLiveF_c W (l.getD i .zero) g p (fun wx hx => hq wx (Below.next hW hx)))
theorem live_at {e : Ending} {l : List Bk} {b : Bk} (h : FoundAt e l (fun x => decide (x.a > b.a))) : ∃ i : Nat, i ≤ l.length ∧ addB l b = insB l i b ∧ ((i < l.length ∧ e = .returned (.int .i64 (i : Nat))) ∨ (i = l.length ∧ e = .returned (.int .i64 (-1)))) := by
 rcases h with ⟨k, hk, rfl, h1, h2⟩ | ⟨rfl, h1⟩
 ·exact ⟨k, by omega, addB_at (by omega) (fun j hj => of_decide_eq_false (h2 j hj)) (fun _ => of_decide_eq_true h1), .inl ⟨hk, rfl⟩⟩
 exact ⟨l.length, Nat.le_refl _, addB_at (Nat.le_refl _) (fun j hj => of_decide_eq_false (h1 j hj)) (fun h => absurd h (Nat.lt_irrefl _)), .inr ⟨rfl, rfl⟩⟩
theorem pAddLive_c (w : World) (B gv hbk : Nat) (y : Hx) (b : Bk) (rhbk : w.heap[hbk]? = some (.cells #[.slice y.zo y.zn y.zc, .slice y.mo y.mn y.mc, .int .i64 y.cpus, .slice y.lo y.ln y.lc, .slice y.vo y.vn y.vc] 27 (0, 0))) (hy : y.At w) (ov : w.ownsRow B 53 3 (.slice y.vo y.vn y.vc) y.vn (bvals y.live)) (ev : ∀ a, y.vo = some a → a.block = gv) (awg : AwayP gv y) (awh : AwayP hbk y) (hzv : ∀ a, y.zo = some a → a.block ≠ gv) (hzh : ∀ a, y.zo = some a → a.block ≠ hbk) (hhv : hbk ≠ gv) (hvn : y.vn ≤ 256) (hgv : gv < w.heap.size) (hB : B ≤ w.heap.size) :
    Calls Tryz.prog 18 #[.pointer (some ⟨hbk, 0, none⟩), .agg #[.int .i64 b.a, .int .i64 b.o, .int .i64 b.t]] w fun e w' => e = .returned (.tuple #[]) ∧ ∃ vo vc, w'.heap[hbk]? = some (.cells #[.slice y.zo y.zn y.zc, .slice y.mo y.mn y.mc, .int .i64 y.cpus, .slice y.lo y.ln y.lc, .slice vo (y.vn + 1 : Nat) vc] 27 (0, 0)) ∧ (y.withB (addB y.live b) vo (y.vn + 1) vc).At w' ∧ Bu2 hbk gv w w' ∧ (∀ a, vo = some a → a.block = gv ∨ w.heap.size ≤ a.block) := by
 have hu := Bu2.refl hbk gv w
 have hr := HRestV.of hy
 have hLv := hy.live
 have hll := hy.live.len
 have ov0 := ov
 have hlw := row_lt rhbk
 refine sx_enter (args := [_, _]) 29 Tryz.func18 rfl rfl rfl ?_
 refine vS (vR ?_); intro A f
 refine l_box f rfl rfl rfl rfl rfl ?_; clear f A; intro b1 W2 eb1 hb3 rb1 A f; dsimp only [Value.cells] at rb1
 have o_hbk_b1 : hbk < b1 := by have := row_lt rhbk; omega
 replace hu := hu.then hb3; replace hr := hr.below hb3; replace rhbk := row_next rhbk hb3; replace ov := owns_below ov hb3 (Nat.le_refl _); replace hLv := hLv.below hb3
 revert A; refine vW (vS (vR (vlm (h:=vli (h:=vlf (h:=vl1 (rowq rhbk) (h:=vld (y_func rfl rfl) (h:=?_)))))))); intro A f
 refine l_call f rfl rfl rfl (IsCall.mk' (cap := []) rfl rfl rfl) (pl rfl) (liveIdx _ y.vo y.vn y.vc b1 y.live b.a hLv (St.of (by rw [cell_of_row _ _ _ _ _ _ rb1]; rfl))) ?_
 clear f A; rintro e W4 ⟨hfa, hb5⟩
 obtain ⟨i, hi, hadd, hcase⟩ := live_at hfa
 rcases hcase with ⟨hil, rfl⟩ | ⟨hil, rfl⟩
 ·skip
  refine ⟨_, rfl, ?_⟩; intro A f
  replace hu := hu.then hb5; replace hr := hr.below hb5; replace rhbk := row_next rhbk hb5; replace rb1 := row_next rb1 hb5; replace ov := owns_below ov hb5 (Nat.le_refl _); replace hLv := hLv.below hb5
  revert A; refine vla (h:=vW (vS (vS (vR (vlm (h:=vlb (y_lss rfl rfl rfl) (h:=?_) (g:=?_)))))))
  ·intro c6; exfalso; omega
  intro c6
  refine vW (vD (h:=vK (vT ?_)))
  have HSh : ∀ wx : World, (fun (wx : World) => wx.heap[hbk]? = some (.cells #[.slice y.zo y.zn y.zc, .slice y.mo y.mn y.mc, .int .i64 y.cpus, .slice y.lo y.ln y.lc, .slice y.vo y.vn y.vc] 27 (0, 0)) ∧ wx.heap[b1]? = some (.cells #[.int .i64 b.a, .int .i64 b.o, .int .i64 b.t] 53 (0, 0))) wx → wx.heap[hbk]? = some (.cells #[.slice y.zo y.zn y.zc, .slice y.mo y.mn y.mc, .int .i64 y.cpus, .slice y.lo y.ln y.lc, .slice y.vo y.vn y.vc] 27 (0, 0)) := fun wx h => h.1
  have HS4 : ∀ wx : World, (fun (wx : World) => wx.heap[hbk]? = some (.cells #[.slice y.zo y.zn y.zc, .slice y.mo y.mn y.mc, .int .i64 y.cpus, .slice y.lo y.ln y.lc, .slice y.vo y.vn y.vc] 27 (0, 0)) ∧ wx.heap[b1]? = some (.cells #[.int .i64 b.a, .int .i64 b.o, .int .i64 b.t] 53 (0, 0))) wx → wx.heap[b1]? = some (.cells #[.int .i64 b.a, .int .i64 b.o, .int .i64 b.t] 53 (0, 0)) := fun wx h => h.2
  intro A f
  refine sx_heldl (n := 11) (fun (wx : World) => wx.heap[hbk]? = some (.cells #[.slice y.zo y.zn y.zc, .slice y.mo y.mn y.mc, .int .i64 y.cpus, .slice y.lo y.ln y.lc, .slice y.vo y.vn y.vc] 27 (0, 0)) ∧ wx.heap[b1]? = some (.cells #[.int .i64 b.a, .int .i64 b.o, .int .i64 b.t] 53 (0, 0))) [7, 8] (by kernel_rfl) (by kernel_rfl) rfl (by kernel_rfl) (blind_body) (⟨row_next rhbk ((Below.refl _ _).drew), row_next rb1 ((Below.refl _ _).drew)⟩) ?_
  dsimp only [List.take]
  generalize hWd : ({ W4 with drawn := W4.drawn + 1 } : World) = W7
  have hdr := drawn_b hWd
  clear hWd
  replace hu := hu.then hdr; replace hr := hr.below hdr; replace rhbk := row_next rhbk hdr; replace rb1 := row_next rb1 hdr; replace ov := owns_below ov hdr (Nat.le_refl _); replace hLv := hLv.below hdr
  revert A; refine vhm (h:=vhm (h:=vhi (h:=vhf (h:=vh1 HSh (h:=vhm (h:=vh3 HS4 (h:=?_)))))))
  obtain ⟨gw, hgw⟩ : ∃ g, g = W7.heap.size := ⟨_, rfl⟩
  have lhb := row_lt rhbk
  have lb3 := row_lt rb1
  have lou := hu.size
  intro A f
  refine h_opR (R := fun v W => v = .slice (some ⟨gw, 0, none⟩) 1 1 ∧ Below W7.heap.size W7 W ∧ W.heap[gw]? = some (.cells #[.int .i64 b.a, .int .i64 b.o, .int .i64 b.t] 53 (0, 0))) f rfl rfl rfl rfl ⟨_, _, bs_exec f rfl rfl (bs_blk1 _ _ _ _), by rw [hgw], (Below.refl _ _).alloc (Nat.le_refl _) _, by rw [hgw]; show (Array.push _ _)[_]? = _; rw [Array.getElem?_push, if_pos rfl]⟩ ?_
  clear f A
  rintro _ W8 ⟨rfl, hb9, rgw⟩
  refine ⟨⟨row_next rhbk hb9, row_next rb1 hb9⟩, ?_⟩
  intro A f
  replace hu := hu.then hb9; replace hr := hr.below hb9; replace rhbk := row_next rhbk hb9; replace rb1 := row_next rb1 hb9; replace ov := owns_below ov hb9 (Nat.le_refl _); replace hLv := hLv.below hb9
  refine h_call f rfl rfl rfl rfl (IsCall.mk' (cap := []) rfl rfl rfl) (pl rfl) (bIns_all _ B y.vn y.vc i gw y.vo y.live b (by omega) (by omega) (by have := hu.size; omega) ov rgw (fun a ha => by have := (owns_blk ov0 a ha).2.1; have := hu.size; omega)) ?_
  clear f A
  rintro _ W10 ⟨g2, c2, rfl, ov2, hwr⟩
  have hug := hu.size
  have hb3g : b1 ≠ gv := by omega
  have hrow : But gv W8 W10 := wrL_but hwr ev
  have hg2 : g2 = gv ∨ w.heap.size ≤ g2 := wrL_where hwr ev (by omega)
  have hg3 : g2 ≠ hbk := by rcases hg2 with e | e <;> omega
  replace rhbk := But.row hrow rhbk hhv
  replace rb1 := But.row hrow rb1 hb3g
  replace hu := hu.trans (Bu2.of_but_z hrow)
  replace hr := hr.but hrow awg (fun a ha => hzv a ha)
  clear ov
  refine ⟨_, rfl, ⟨rhbk, rb1⟩, ?_⟩
  refine vhi (h:=vhf (h:=vM ?_)); intro A f
  show Oper.wp _ _ _ _ _ _
  refine g_store f rfl rfl rfl rfl rhbk (sz rfl) rfl (Nat.le_of_ble_eq_true rfl) rfl ?_
  clear rhbk
  intro W11 hb12 rhbk
  dsimp only [setL, over, Value.cells] at rhbk
  replace hu := hu.trans (Bu2.of_but_g hb12)
  replace hr := hr.but hb12 awh (fun a ha => hzh a ha)
  replace ov2 := owns_butN ov2 hb12 (fun a ha => by cases ha; dsimp only; omega)
  refine x_norm0 f rfl ?_
  refine ⟨rfl, some ⟨g2, 0, none⟩, c2, rhbk, ?_, hu, fun a ha => by cases ha; exact hg2⟩
  rw [hadd]
  exact hr.at_ ov2 (by omega)
 skip
 obtain rfl : i = y.vn := by omega
 refine ⟨_, rfl, ?_⟩; intro A f
 replace hu := hu.then hb5; replace hr := hr.below hb5; replace rhbk := row_next rhbk hb5; replace rb1 := row_next rb1 hb5; replace ov := owns_below ov hb5 (Nat.le_refl _); replace hLv := hLv.below hb5
 revert A; refine vla (h:=vW (vS (vS (vR (vlm (h:=vlb (y_lss rfl rfl rfl) (h:=?_) (g:=?_)))))))
 ·intro c13
  refine vW (vC (h:=vR (vlm (h:=vli (h:=vlf (h:=vl1 (rowq rhbk) (h:=vlz (h:=vla (h:=vW ?_)))))))))
  have HSh : ∀ wx : World, (fun (wx : World) => wx.heap[hbk]? = some (.cells #[.slice y.zo y.zn y.zc, .slice y.mo y.mn y.mc, .int .i64 y.cpus, .slice y.lo y.ln y.lc, .slice y.vo y.vn y.vc] 27 (0, 0)) ∧ wx.heap[b1]? = some (.cells #[.int .i64 b.a, .int .i64 b.o, .int .i64 b.t] 53 (0, 0))) wx → wx.heap[hbk]? = some (.cells #[.slice y.zo y.zn y.zc, .slice y.mo y.mn y.mc, .int .i64 y.cpus, .slice y.lo y.ln y.lc, .slice y.vo y.vn y.vc] 27 (0, 0)) := fun wx h => h.1
  have HS4 : ∀ wx : World, (fun (wx : World) => wx.heap[hbk]? = some (.cells #[.slice y.zo y.zn y.zc, .slice y.mo y.mn y.mc, .int .i64 y.cpus, .slice y.lo y.ln y.lc, .slice y.vo y.vn y.vc] 27 (0, 0)) ∧ wx.heap[b1]? = some (.cells #[.int .i64 b.a, .int .i64 b.o, .int .i64 b.t] 53 (0, 0))) wx → wx.heap[b1]? = some (.cells #[.int .i64 b.a, .int .i64 b.o, .int .i64 b.t] 53 (0, 0)) := fun wx h => h.2
  intro A f
  refine sx_heldl (n := 11) (fun (wx : World) => wx.heap[hbk]? = some (.cells #[.slice y.zo y.zn y.zc, .slice y.mo y.mn y.mc, .int .i64 y.cpus, .slice y.lo y.ln y.lc, .slice y.vo y.vn y.vc] 27 (0, 0)) ∧ wx.heap[b1]? = some (.cells #[.int .i64 b.a, .int .i64 b.o, .int .i64 b.t] 53 (0, 0))) [7, 8] (by kernel_rfl) (by kernel_rfl) rfl (by kernel_rfl) (blind_body) (⟨row_next rhbk ((Below.refl _ _).drew), row_next rb1 ((Below.refl _ _).drew)⟩) ?_
  dsimp only [List.take]
  generalize hWd : ({ W4 with drawn := W4.drawn + 1 } : World) = W14
  have hdr := drawn_b hWd
  clear hWd
  replace hu := hu.then hdr; replace hr := hr.below hdr; replace rhbk := row_next rhbk hdr; replace rb1 := row_next rb1 hdr; replace ov := owns_below ov hdr (Nat.le_refl _); replace hLv := hLv.below hdr
  revert A; refine vhm (h:=vhm (h:=vhi (h:=vhf (h:=vh1 HSh (h:=vhm (h:=vh3 HS4 (h:=?_)))))))
  obtain ⟨gw, hgw⟩ : ∃ g, g = W14.heap.size := ⟨_, rfl⟩
  have lhb := row_lt rhbk
  have lb3 := row_lt rb1
  have lou := hu.size
  intro A f
  refine h_opR (R := fun v W => v = .slice (some ⟨gw, 0, none⟩) 1 1 ∧ Below W14.heap.size W14 W ∧ W.heap[gw]? = some (.cells #[.int .i64 b.a, .int .i64 b.o, .int .i64 b.t] 53 (0, 0))) f rfl rfl rfl rfl ⟨_, _, bs_exec f rfl rfl (bs_blk1 _ _ _ _), by rw [hgw], (Below.refl _ _).alloc (Nat.le_refl _) _, by rw [hgw]; show (Array.push _ _)[_]? = _; rw [Array.getElem?_push, if_pos rfl]⟩ ?_
  clear f A
  rintro _ W15 ⟨rfl, hb16, rgw⟩
  refine ⟨⟨row_next rhbk hb16, row_next rb1 hb16⟩, ?_⟩
  intro A f
  replace hu := hu.then hb16; replace hr := hr.below hb16; replace rhbk := row_next rhbk hb16; replace rb1 := row_next rb1 hb16; replace ov := owns_below ov hb16 (Nat.le_refl _); replace hLv := hLv.below hb16
  refine h_call f rfl rfl rfl rfl (IsCall.mk' (cap := []) rfl rfl rfl) (pl rfl) (bIns_all _ B y.vn y.vc y.vn gw y.vo y.live b (by omega) (by omega) (by have := hu.size; omega) ov rgw (fun a ha => by have := (owns_blk ov0 a ha).2.1; have := hu.size; omega)) ?_
  clear f A
  rintro _ W17 ⟨g2, c2, rfl, ov2, hwr⟩
  have hug := hu.size
  have hb3g : b1 ≠ gv := by omega
  have hrow : But gv W15 W17 := wrL_but hwr ev
  have hg2 : g2 = gv ∨ w.heap.size ≤ g2 := wrL_where hwr ev (by omega)
  have hg3 : g2 ≠ hbk := by rcases hg2 with e | e <;> omega
  replace rhbk := But.row hrow rhbk hhv
  replace rb1 := But.row hrow rb1 hb3g
  replace hu := hu.trans (Bu2.of_but_z hrow)
  replace hr := hr.but hrow awg (fun a ha => hzv a ha)
  clear ov
  refine ⟨_, rfl, ⟨rhbk, rb1⟩, ?_⟩
  refine vhi (h:=vhf (h:=vM ?_)); intro A f
  show Oper.wp _ _ _ _ _ _
  refine g_store f rfl rfl rfl rfl rhbk (sz rfl) rfl (Nat.le_of_ble_eq_true rfl) rfl ?_
  clear rhbk
  intro W18 hb19 rhbk
  dsimp only [setL, over, Value.cells] at rhbk
  replace hu := hu.trans (Bu2.of_but_g hb19)
  replace hr := hr.but hb19 awh (fun a ha => hzh a ha)
  replace ov2 := owns_butN ov2 hb19 (fun a ha => by cases ha; dsimp only; omega)
  refine x_norm0 f rfl ?_
  refine ⟨rfl, some ⟨g2, 0, none⟩, c2, rhbk, ?_, hu, fun a ha => by cases ha; exact hg2⟩
  rw [hadd]
  exact hr.at_ ov2 (by omega)
 intro c13; exfalso; omega
open Go.Proofs.YtbjlbmofdnkmiaaGreatDoor.Kit
theorem apt_cnt : ∀ (l P : List Bk), Apt P l → (∀ p, cnt P p ≤ 1) → ∀ p, cnt (P ++ l) p ≤ 1
 | [], P, _, hP, p => by simpa using hP p
 | b :: l, P, h, hP, p => by
  rw [show b :: l = [b] ++ l from rfl, apt_append, apt_one] at h
  have h1 : ∀ p, cnt (P ++ [b]) p ≤ 1 := fun p => by
   rw [cnt_append, cnt_one]
   have hp := hP p
   by_cases c : hit b.a b.o p = 0
   ·omega
   have hh := hit_one.1 (Nat.pos_of_ne_zero c)
   have h0 : cnt P p = 0 := by
    by_cases g : cnt P p = 0
    ·exact g
    obtain ⟨x, hx, h1, h2⟩ := cnt_pos.1 (Nat.pos_of_ne_zero g)
    exact absurd ((ovlP_mem P b.a b.o).2 ⟨x, hx, by omega, by omega⟩) h.1
   have h1 : hit b.a b.o p ≤ 1 := by unfold hit; split <;> omega
   omega
  have := apt_cnt l (P ++ [b]) h.2 h1 p
  rwa [List.append_assoc] at this
theorem zs_two {H : Hp} (h : H.zones.length = 2) : H.zones = [H.zones.getD 0 ⟨0, 0, [], []⟩, H.zones.getD 1 ⟨0, 0, [], []⟩] := by
 obtain ⟨zs, _, _, _, _⟩ := H
 dsimp only at h ⊢
 match zs, h with
 | [a, b], _ => rfl
def zcnt (H : Hp) (p : Int) : Nat := cnt (H.zones.flatMap (·.free)) p
theorem zcnt_two {H : Hp} (h : H.zones.length = 2) (p : Int) : zcnt H p = cnt (H.zones.getD 0 ⟨0, 0, [], []⟩).free p + cnt (H.zones.getD 1 ⟨0, 0, [], []⟩).free p := by
 unfold zcnt
 rw [zs_two h]
 simp [cnt_append]
theorem backH_ok {H : Hp} (hz : ZsOk H) {a o : Int} (ho : ordOk o) (hm : a % pw o = 0) (h0 : 0 ≤ a) (h1 : a < 256) (hc : ∀ p, zcnt H p + hit a o p ≤ 1) :
    CanBack H a o ∧ ZsOk (backH H a o) ∧ ∀ p, zcnt (backH H a o) p = zcnt H p + hit a o p := by
 have hc' : ∀ p, cnt (H.zones.getD 0 ⟨0, 0, [], []⟩).free p + cnt (H.zones.getD 1 ⟨0, 0, [], []⟩).free p + hit a o p ≤ 1 := fun p => by
  have := hc p
  rwa [zcnt_two hz.n] at this
 have e := zs_two hz.n
 obtain ⟨zs, mins, cpus, ls, live⟩ := H
 dsimp only at e hc'
 obtain ⟨z0, hz0⟩ : ∃ z, zs.getD 0 ⟨0, 0, [], []⟩ = z := ⟨_, rfl⟩
 obtain ⟨z1, hz1⟩ : ∃ z, zs.getD 1 ⟨0, 0, [], []⟩ = z := ⟨_, rfl⟩
 rw [hz0, hz1] at e hc'
 subst e
 clear hz0 hz1 hc
 have m0 : ZMay z0 := hz.m0
 have m1 : ZMay z1 := hz.m1
 have f0 : z0.f = 0 := hz.f0
 have f1 : z1.f = z0.t := hz.f1
 have t1 : z1.t = 256 := hz.t1
 by_cases ha : a < z0.t
 ·have ei : zIdx ⟨[z0, z1], mins, cpus, ls, live⟩ a = 0 := if_pos ha
  have hno : ¬ ovlP z0.free a o := no_ovl fun p => by have := hc' p; omega
  have hin : blkIn z0.f z0.t a o := ⟨ho, by omega, by omega, hm⟩
  have eb : backH ⟨[z0, z1], mins, cpus, ls, live⟩ a o = ⟨[backZ z0 a o, z1], mins, cpus, ls, live⟩ := by unfold backH; rw [ei]; rfl
  have hcb := cnt_back (free_iff.1 m0.free).2 ho.1 hm
  refine ⟨⟨rfl, by rw [ei]; exact m0, by rw [ei]; exact hin, by rw [ei]; exact hno⟩, ?_⟩
  rw [eb]
  refine ⟨⟨rfl, backZ_may m0 hin hno, m1, f0, f1, t1⟩, fun p => ?_⟩
  rw [zcnt_two rfl, zcnt_two rfl]
  have := hcb p
  show cnt (backZ z0 a o).free p + cnt z1.free p = cnt z0.free p + cnt z1.free p + hit a o p
  omega
 have ei : zIdx ⟨[z0, z1], mins, cpus, ls, live⟩ a = 1 := if_neg ha
 have hno : ¬ ovlP z1.free a o := no_ovl fun p => by have := hc' p; omega
 have hin : blkIn z1.f z1.t a o := ⟨ho, by omega, by omega, hm⟩
 have eb : backH ⟨[z0, z1], mins, cpus, ls, live⟩ a o = ⟨[z0, backZ z1 a o], mins, cpus, ls, live⟩ := by unfold backH; rw [ei]; rfl
 have hcb := cnt_back (free_iff.1 m1.free).2 ho.1 hm
 refine ⟨⟨rfl, by rw [ei]; exact m1, by rw [ei]; exact hin, by rw [ei]; exact hno⟩, ?_⟩
 rw [eb]
 refine ⟨⟨rfl, m0, backZ_may m1 hin hno, f0, f1, t1⟩, fun p => ?_⟩
 rw [zcnt_two rfl, zcnt_two rfl]
 have := hcb p
 show cnt z0.free p + cnt (backZ z1 a o).free p = cnt z0.free p + cnt z1.free p + hit a o p
 omega
theorem backs_ok : ∀ (l : List Int) (H : Hp), ZsOk H → (∀ p ∈ l, 0 ≤ p ∧ p < 256) → (∀ p, zcnt H p + cnt (l.map pgB) p ≤ 1) →
    CanBacks H l ∧ ZsOk (backs H l) ∧ ∀ p, zcnt (backs H l) p = zcnt H p + cnt (l.map pgB) p
 | [], H, hz, _, _ => ⟨trivial, hz, fun p => by simp [backs, cnt]⟩
 | a :: l, H, hz, hr, hc => by
  have hc' : ∀ p, zcnt H p + (hit a 0 p + cnt (l.map pgB) p) ≤ 1 := hc
  have ha := hr a (by simp)
  obtain ⟨h1, h2, h3⟩ := backH_ok hz (a := a) (o := 0) ⟨by omega, by omega⟩ (by rw [pw_0]; omega) ha.1 ha.2 (fun p => by have := hc' p; omega)
  obtain ⟨k1, k2, k3⟩ := backs_ok l (backH H a 0) h2 (fun p hp => hr p (by simp [hp])) (fun p => by rw [h3]; have := hc' p; omega)
  refine ⟨⟨h1, k1⟩, k2, fun p => ?_⟩
  show zcnt (backs (backH H a 0) l) p = zcnt H p + (hit a 0 p + cnt (l.map pgB) p)
  rw [k3, h3]
  omega
theorem Kit.HMay.cntLe {H : Hp} (h : HMay H) (p : Int) : zcnt H p + (Kit.cnt ((H.lists.flatMap (·.pages)).map pgB) p + Kit.cnt H.live p) ≤ 1 := by
 have := apt_cnt _ _ h.apart (fun p => by simp [Kit.cnt]) p
 unfold placed at this
 rw [List.nil_append, cnt_append, cnt_append] at this
 rw [List.map_flatMap]
 exact this
theorem Kit.HMay.pageR {H : Hp} (h : HMay H) {p : Int} (hp : p ∈ H.lists.flatMap (·.pages)) : 0 ≤ p ∧ p < 256 := by
 obtain ⟨L, hL, hp⟩ := List.mem_flatMap.1 hp
 obtain ⟨i, hi, rfl⟩ := List.getElem_of_mem hL
 obtain ⟨j, hj, rfl⟩ := List.getElem_of_mem hp
 have hk := h.ls.ok i hi
 rw [List.getD_eq_getElem?_getD, List.getElem?_eq_getElem hi] at hk
 simp only [Option.getD_some] at hk
 have hq := hk.p j hj
 rw [List.getD_eq_getElem?_getD (l := (H.lists[i]).pages), List.getElem?_eq_getElem hj] at hq
 simp only [Option.getD_some] at hq
 have hz := hk.z
 have z0 := h.zs.m0.new
 have z1 := h.zs.m1.new
 unfold newOk at z0 z1
 have f0 := h.zs.f0
 have f1 := h.zs.f1
 have t1 := h.zs.t1
 rcases (show (H.lists[i]).z = 0 ∨ (H.lists[i]).z = 1 by omega) with e | e <;> rw [e] at hq
 ·have hq' : (H.zones.getD 0 ⟨0, 0, [], []⟩).f ≤ (H.lists[i]).pages[j] ∧ (H.lists[i]).pages[j] < (H.zones.getD 0 ⟨0, 0, [], []⟩).t := hq
  omega
 have hq' : (H.zones.getD 1 ⟨0, 0, [], []⟩).f ≤ (H.lists[i]).pages[j] ∧ (H.lists[i]).pages[j] < (H.zones.getD 1 ⟨0, 0, [], []⟩).t := hq
 omega
theorem Kit.HMay.canBacks {H : Hp} (h : HMay H) : CanBacks H (H.lists.flatMap (·.pages)) ∧ ZsOk (backs H (H.lists.flatMap (·.pages))) ∧ ∀ p, zcnt (backs H (H.lists.flatMap (·.pages))) p = zcnt H p + Kit.cnt ((H.lists.flatMap (·.pages)).map pgB) p :=
 backs_ok _ H h.zs (fun _ hp => h.pageR hp) (fun p => by have := h.cntLe p; omega)
def emptyH (H : Hp) : Hp := { backs H (H.lists.flatMap (·.pages)) with lists := [] }
def find2H (H : Hp) (cpu o fl : Int) : Option (Hp × Int) :=
 match findH H cpu o fl with
 | some r => some r
 | none => findH (emptyH H) cpu o fl
def allocH (H : Hp) (cpu o fl : Int) : Option (Hp × Int) := (find2H H cpu o fl).map fun r => ({ r.1 with live := addB r.1.live ⟨r.2, o, typeF fl⟩ }, r.2)
theorem find2_one {H : Hp} {cpu o fl : Int} {r : Hp × Int} (h : findH H cpu o fl = some r) : find2H H cpu o fl = some r := by unfold find2H; rw [h]
theorem find2_two {H : Hp} {cpu o fl : Int} (h : findH H cpu o fl = none) : find2H H cpu o fl = findH (emptyH H) cpu o fl := by unfold find2H; rw [h]
theorem emptyH_zs {H : Hp} (h : HMay H) : ZsOk (emptyH H) := by
 have k := h.canBacks.2.1
 exact ⟨k.n, k.m0, k.m1, k.f0, k.f1, k.t1⟩
theorem emptyH_ls (H : Hp) : LssOk (emptyH H) := ⟨fun i hi => absurd hi (Nat.not_lt_zero i), fun i _ hi => absurd hi (Nat.not_lt_zero i)⟩
theorem hp_adj {H : Hp} (hM : HMay H) (y : Hx) (e : y.hp = H) : Adj y := by
 subst e
 have := hM.zs
 unfold Adj
 rw [← hp_zone, ← hp_zone]
 exact this.f1
theorem lsPages_in {l : List Ls} {x : Ls} {p : Int} (h : p ∈ lsPages l x) : p ∈ l.flatMap (·.pages) := by
 unfold lsPages at h
 cases e : l.find? (fun a => decide (a.c = x.c ∧ a.z = x.z ∧ a.t = x.t)) with
 | none => rw [e] at h; simp at h
 | some a =>
  rw [e] at h
  exact List.mem_flatMap.2 ⟨a, List.mem_of_find?_eq_some e, by simpa using h⟩
theorem tryH_pos {H G : Hp} {cpu : Int} {z : Nat} {o fl p : Int} (hZ : ZsOk H) (hz : z < 2) (ho : ordOk o) (hp : ∀ q ∈ H.lists.flatMap (·.pages), 0 ≤ q) (h : tryH H cpu z o fl = some (G, p)) : 0 ≤ p := by
 unfold tryH at h
 split at h
 ·rename_i h0
  subst h0
  unfold singleH at h
  split at h
  ·rename_i hl
   simp only [Option.some.injEq, Prod.mk.injEq] at h
   rw [← h.2]
   exact hp _ (lsPages_in (getD_mem (by omega)))
  cases hr : takeGH H z 0 fl with
  | none => rw [hr] at h; cases h
  | some r =>
   obtain ⟨G', p'⟩ := r
   rw [hr] at h
   simp only [Option.some.injEq, Prod.mk.injEq] at h
   rw [← h.2]
   exact (takeH_ok hZ hz ho hr).2.2.2.2.2
 exact (takeH_ok hZ hz ho h).2.2.2.2.2
theorem findH_low {H : Hp} {cpu o fl : Int} (h : fl % 2 = 1) : findH H cpu o fl = tryH H cpu 0 o fl := if_pos h
theorem findH_one {H : Hp} {cpu o fl : Int} {r : Hp × Int} (h : ¬ fl % 2 = 1) (h1 : tryH H cpu 1 o fl = some r) : findH H cpu o fl = some r := by unfold findH; rw [if_neg h, h1]
theorem findH_two {H : Hp} {cpu o fl : Int} (h : ¬ fl % 2 = 1) (h1 : tryH H cpu 1 o fl = none) : findH H cpu o fl = tryH H cpu 0 o fl := by unfold findH; rw [if_neg h, h1]
theorem typeAsked_at (w : World) {fl c : Int} (h : askF fl = c) : Calls Tryz.prog 22 #[.int .i64 fl] w fun e w' => e = .returned (.int .i64 c) ∧ Below w.heap.size w w' := by
 rw [← h]
 exact typeAsked_c w fl
def Phase (cpu o fl : Int) (r : Nat) (Y : Hx) (p : Int) (y : Hx) : Prop :=
 (r = 0 ∧ p = -1 ∧ Y = y) ∨ (r = 1 ∧ p = -1 ∧ Y = y ∧ findH y.hp cpu o fl = none) ∨ (r = 2 ∧ p = -1 ∧ find2H y.hp cpu o fl = none) ∨ (1 ≤ r ∧ 0 ≤ p ∧ find2H y.hp cpu o fl = some (Y.hp, p))
theorem heapAlloc_no8 (w : World) (x : Hx) (cpu o fl : Int) (hx : x.At w) (hM : ¬ HMay x.hp) :
    Calls Tryz.prog 6 #[.agg #[.slice x.zo x.zn x.zc, .slice x.mo x.mn x.mc, .int .i64 x.cpus, .slice x.lo x.ln x.lc, .slice x.vo x.vn x.vc], .int .i64 cpu, .int .i64 o, .int .i64 fl] w fun e w' => e = .returned (.tuple #[.agg #[.slice none 0 0, .slice none 0 0, .int .i64 0, .slice none 0 0, .slice none 0 0], .int .i64 0, .int .i64 8]) ∧ Below w.heap.size w w' := by
 have HC : ∀ W, x.At W → Calls Tryz.prog 20 #[.agg #[.slice x.zo x.zn x.zc, .slice x.mo x.mn x.mc, .int .i64 x.cpus, .slice x.lo x.ln x.lc, .slice x.vo x.vn x.vc]] W fun e w' => e = .returned (.bool false) ∧ Below W.heap.size W w' := fun W hW => (heapMay_any W x hW).mono fun e w1 h1 => by
  obtain ⟨⟨r, rfl, hc⟩, hb⟩ := h1
  cases r with
  | false => exact ⟨rfl, hb⟩
  | true => exact absurd (hc.mp rfl) hM
 have B0 := Below.refl w.heap.size w
 refine sx_enter (args := [_, _, _, _]) 86 Tryz.func6 rfl rfl rfl ?_
 refine vS (vR ?_); intro A f
 refine l_box f rfl rfl rfl rfl rfl ?_; clear f A; intro b1 W2 eb1 hb3 rb1 A f; dsimp only [Value.cells] at rb1
 have z_B0_b1 := B0.size; rw [eb1] at z_B0_b1
 replace B0 := Below.next B0 hb3
 refine l_alloc (z := .agg #[.slice none 0 0, .slice none 0 0, .int .i64 0, .slice none 0 0, .slice none 0 0]) f rfl rfl rfl rfl (by kernel_rfl) ?_; clear f A; intro b4 W5 eb4 hb6 rb4 A f; dsimp only [Value.cells] at rb4
 have o_b1_b4 : b1 < b4 := by have := row_lt rb1; omega
 have z_B0_b4 := B0.size; rw [eb4] at z_B0_b4
 replace B0 := Below.next B0 hb6; replace rb1 := row_next rb1 hb6
 revert A; refine vla (h:=vla (h:=vW (vS (vS (vR (vl5 (rowq rb1) (h:=?_))))))); intro A f
 refine l_call f rfl rfl rfl (IsCall.mk' (cap := []) rfl rfl rfl) (pl rfl) (HC _ (hx.below B0)) ?_
 clear f A
 rintro _ W7 ⟨rfl, hb8⟩
 refine ⟨_, rfl, ?_⟩
 intro A f
 replace B0 := Below.next B0 hb8; replace rb1 := row_next rb1 hb8; replace rb4 := row_next rb4 hb8
 revert A; refine vln (h:=vW (vC (h:=vS (vR (vld (y_build #[.slice none 0 0, .slice none 0 0, .int .i64 0, .slice none 0 0, .slice none 0 0] rfl rfl (by kernel_rfl)) (h:=?_)))))); intro A f
 refine vls f rb4 ?_
 clear rb4; intro W9 hb10 rb4; dsimp only [setL, over, Value.cells] at rb4; replace B0 := Below.thenBut B0 hb10 (by omega); replace rb1 := But.row hb10 rb1 (by omega)
 revert A; refine vla (h:=vla (h:=vW (vE (vF ?_)))); intro A f
 refine x_retc2 f rfl rfl rfl rfl (ag rfl) rb4 rfl ?_
 exact ⟨rfl, B0⟩
theorem heapAlloc_no1a (w : World) (x : Hx) (cpu o fl : Int) (hx : x.At w) (hM : HMay x.hp) (hc : ¬ (0 ≤ cpu ∧ cpu ≤ x.cpus - 1)) :
    Calls Tryz.prog 6 #[.agg #[.slice x.zo x.zn x.zc, .slice x.mo x.mn x.mc, .int .i64 x.cpus, .slice x.lo x.ln x.lc, .slice x.vo x.vn x.vc], .int .i64 cpu, .int .i64 o, .int .i64 fl] w fun e w' => e = .returned (.tuple #[.agg #[.slice none 0 0, .slice none 0 0, .int .i64 0, .slice none 0 0, .slice none 0 0], .int .i64 0, .int .i64 1]) ∧ Below w.heap.size w w' := by
 have HC : ∀ W, x.At W → Calls Tryz.prog 20 #[.agg #[.slice x.zo x.zn x.zc, .slice x.mo x.mn x.mc, .int .i64 x.cpus, .slice x.lo x.ln x.lc, .slice x.vo x.vn x.vc]] W fun e w' => e = .returned (.bool true) ∧ Below W.heap.size W w' := fun W hW => (heapMay_any W x hW).mono fun e w1 h1 => by
  obtain ⟨⟨r, rfl, hc⟩, hb⟩ := h1
  cases r with
  | false => exact absurd (hc.mpr hM) (by simp)
  | true => exact ⟨rfl, hb⟩
 have hcp : 1 ≤ x.cpus ∧ x.cpus ≤ 4 := hM.cpus
 have B0 := Below.refl w.heap.size w
 refine sx_enter (args := [_, _, _, _]) 86 Tryz.func6 rfl rfl rfl ?_
 refine vS (vR ?_); intro A f
 refine l_box f rfl rfl rfl rfl rfl ?_; clear f A; intro b1 W2 eb1 hb3 rb1 A f; dsimp only [Value.cells] at rb1
 have z_B0_b1 := B0.size; rw [eb1] at z_B0_b1
 replace B0 := Below.next B0 hb3
 refine l_alloc (z := .agg #[.slice none 0 0, .slice none 0 0, .int .i64 0, .slice none 0 0, .slice none 0 0]) f rfl rfl rfl rfl (by kernel_rfl) ?_; clear f A; intro b4 W5 eb4 hb6 rb4 A f; dsimp only [Value.cells] at rb4
 have o_b1_b4 : b1 < b4 := by have := row_lt rb1; omega
 have z_B0_b4 := B0.size; rw [eb4] at z_B0_b4
 replace B0 := Below.next B0 hb6; replace rb1 := row_next rb1 hb6
 revert A; refine vla (h:=vla (h:=vW (vS (vS (vR (vl5 (rowq rb1) (h:=?_))))))); intro A f
 refine l_call f rfl rfl rfl (IsCall.mk' (cap := []) rfl rfl rfl) (pl rfl) (HC _ (hx.below B0)) ?_
 clear f A
 rintro _ W7 ⟨rfl, hb8⟩
 refine ⟨_, rfl, ?_⟩
 intro A f
 replace B0 := Below.next B0 hb8; replace rb1 := row_next rb1 hb8; replace rb4 := row_next rb4 hb8
 revert A; refine vln (h:=vW (vD (h:=vK (vT (vS (vS (vR (vlm (h:=vlf (h:=vl1 (rowq rb1) (h:=vld (y_sub rfl rfl rfl rfl (by omega)) (h:=?_)))))))))))); intro A f
 refine l_callif _ f rfl rfl rfl (IsCall.mk' (cap := []) rfl rfl rfl) (pl rfl) (in_c _ _ _ _) ?_ ?_
 ·intro c9; exfalso; omega
 clear f A; intro c9 W11 hb10 A f
 replace B0 := Below.next B0 hb10; replace rb1 := row_next rb1 hb10; replace rb4 := row_next rb4 hb10
 revert A; refine vln (h:=vlm (h:=vlO 3 (h:=vlp (h:=vW (vC (h:=vS (vR (vld (y_build #[.slice none 0 0, .slice none 0 0, .int .i64 0, .slice none 0 0, .slice none 0 0] rfl rfl (by kernel_rfl)) (h:=?_))))))))); intro A f
 refine vls f rb4 ?_
 clear rb4; intro W12 hb13 rb4; dsimp only [setL, over, Value.cells] at rb4; replace B0 := Below.thenBut B0 hb13 (by omega); replace rb1 := But.row hb13 rb1 (by omega)
 revert A; refine vla (h:=vla (h:=vW (vE (vF ?_)))); intro A f
 refine x_retc2 f rfl rfl rfl rfl (ag rfl) rb4 rfl ?_
 exact ⟨rfl, B0⟩
theorem heapAlloc_no1b (w : World) (x : Hx) (cpu o fl : Int) (hx : x.At w) (hM : HMay x.hp) (hc : 0 ≤ cpu ∧ cpu ≤ x.cpus - 1) (ho : ¬ (0 ≤ o ∧ o ≤ 4)) :
    Calls Tryz.prog 6 #[.agg #[.slice x.zo x.zn x.zc, .slice x.mo x.mn x.mc, .int .i64 x.cpus, .slice x.lo x.ln x.lc, .slice x.vo x.vn x.vc], .int .i64 cpu, .int .i64 o, .int .i64 fl] w fun e w' => e = .returned (.tuple #[.agg #[.slice none 0 0, .slice none 0 0, .int .i64 0, .slice none 0 0, .slice none 0 0], .int .i64 0, .int .i64 1]) ∧ Below w.heap.size w w' := by
 have HC : ∀ W, x.At W → Calls Tryz.prog 20 #[.agg #[.slice x.zo x.zn x.zc, .slice x.mo x.mn x.mc, .int .i64 x.cpus, .slice x.lo x.ln x.lc, .slice x.vo x.vn x.vc]] W fun e w' => e = .returned (.bool true) ∧ Below W.heap.size W w' := fun W hW => (heapMay_any W x hW).mono fun e w1 h1 => by
  obtain ⟨⟨r, rfl, hc⟩, hb⟩ := h1
  cases r with
  | false => exact absurd (hc.mpr hM) (by simp)
  | true => exact ⟨rfl, hb⟩
 have hcp : 1 ≤ x.cpus ∧ x.cpus ≤ 4 := hM.cpus
 have B0 := Below.refl w.heap.size w
 refine sx_enter (args := [_, _, _, _]) 86 Tryz.func6 rfl rfl rfl ?_
 refine vS (vR ?_); intro A f
 refine l_box f rfl rfl rfl rfl rfl ?_; clear f A; intro b1 W2 eb1 hb3 rb1 A f; dsimp only [Value.cells] at rb1
 have z_B0_b1 := B0.size; rw [eb1] at z_B0_b1
 replace B0 := Below.next B0 hb3
 refine l_alloc (z := .agg #[.slice none 0 0, .slice none 0 0, .int .i64 0, .slice none 0 0, .slice none 0 0]) f rfl rfl rfl rfl (by kernel_rfl) ?_; clear f A; intro b4 W5 eb4 hb6 rb4 A f; dsimp only [Value.cells] at rb4
 have o_b1_b4 : b1 < b4 := by have := row_lt rb1; omega
 have z_B0_b4 := B0.size; rw [eb4] at z_B0_b4
 replace B0 := Below.next B0 hb6; replace rb1 := row_next rb1 hb6
 revert A; refine vla (h:=vla (h:=vW (vS (vS (vR (vl5 (rowq rb1) (h:=?_))))))); intro A f
 refine l_call f rfl rfl rfl (IsCall.mk' (cap := []) rfl rfl rfl) (pl rfl) (HC _ (hx.below B0)) ?_
 clear f A
 rintro _ W7 ⟨rfl, hb8⟩
 refine ⟨_, rfl, ?_⟩
 intro A f
 replace B0 := Below.next B0 hb8; replace rb1 := row_next rb1 hb8; replace rb4 := row_next rb4 hb8
 revert A; refine vln (h:=vW (vD (h:=vK (vT (vS (vS (vR (vlm (h:=vlf (h:=vl1 (rowq rb1) (h:=vld (y_sub rfl rfl rfl rfl (by omega)) (h:=?_)))))))))))); intro A f
 refine l_callif _ f rfl rfl rfl (IsCall.mk' (cap := []) rfl rfl rfl) (pl rfl) (in_c _ _ _ _) ?_ ?_
 ·clear f A; intro c9 W11 hb10 A f
  replace B0 := Below.next B0 hb10; replace rb1 := row_next rb1 hb10; replace rb4 := row_next rb4 hb10
  revert A; refine vln (h:=vlm (h:=vlm (h:=?_))); intro A f
  refine l_callif _ f rfl rfl rfl (IsCall.mk' (cap := []) rfl rfl rfl) (pl rfl) (in_c _ _ _ _) ?_ ?_
  ·intro c12; exfalso; omega
  clear f A; intro c12 W14 hb13 A f
  replace B0 := Below.next B0 hb13; replace rb1 := row_next rb1 hb13; replace rb4 := row_next rb4 hb13
  revert A; refine vln (h:=vlp (h:=vW (vC (h:=vS (vR (vld (y_build #[.slice none 0 0, .slice none 0 0, .int .i64 0, .slice none 0 0, .slice none 0 0] rfl rfl (by kernel_rfl)) (h:=?_))))))); intro A f
  refine vls f rb4 ?_
  clear rb4; intro W15 hb16 rb4; dsimp only [setL, over, Value.cells] at rb4; replace B0 := Below.thenBut B0 hb16 (by omega); replace rb1 := But.row hb16 rb1 (by omega)
  revert A; refine vla (h:=vla (h:=vW (vE (vF ?_)))); intro A f
  refine x_retc2 f rfl rfl rfl rfl (ag rfl) rb4 rfl ?_
  exact ⟨rfl, B0⟩
 intro c9; exfalso; omega
theorem heapAlloc_no3 (w : World) (x : Hx) (cpu o fl : Int) (hx : x.At w) (hM : HMay x.hp) (hc : 0 ≤ cpu ∧ cpu ≤ x.cpus - 1) (ho : 0 ≤ o ∧ o ≤ 4) (hfn : ¬ flagsOk fl) :
    Calls Tryz.prog 6 #[.agg #[.slice x.zo x.zn x.zc, .slice x.mo x.mn x.mc, .int .i64 x.cpus, .slice x.lo x.ln x.lc, .slice x.vo x.vn x.vc], .int .i64 cpu, .int .i64 o, .int .i64 fl] w fun e w' => e = .returned (.tuple #[.agg #[.slice none 0 0, .slice none 0 0, .int .i64 0, .slice none 0 0, .slice none 0 0], .int .i64 0, .int .i64 3]) ∧ Below w.heap.size w w' := by
 have HC : ∀ W, x.At W → Calls Tryz.prog 20 #[.agg #[.slice x.zo x.zn x.zc, .slice x.mo x.mn x.mc, .int .i64 x.cpus, .slice x.lo x.ln x.lc, .slice x.vo x.vn x.vc]] W fun e w' => e = .returned (.bool true) ∧ Below W.heap.size W w' := fun W hW => (heapMay_any W x hW).mono fun e w1 h1 => by
  obtain ⟨⟨r, rfl, hc⟩, hb⟩ := h1
  cases r with
  | false => exact absurd (hc.mpr hM) (by simp)
  | true => exact ⟨rfl, hb⟩
 have hcp : 1 ≤ x.cpus ∧ x.cpus ≤ 4 := hM.cpus
 have haf : askF fl = -1 := if_neg hfn
 have B0 := Below.refl w.heap.size w
 refine sx_enter (args := [_, _, _, _]) 86 Tryz.func6 rfl rfl rfl ?_
 refine vS (vR ?_); intro A f
 refine l_box f rfl rfl rfl rfl rfl ?_; clear f A; intro b1 W2 eb1 hb3 rb1 A f; dsimp only [Value.cells] at rb1
 have z_B0_b1 := B0.size; rw [eb1] at z_B0_b1
 replace B0 := Below.next B0 hb3
 refine l_alloc (z := .agg #[.slice none 0 0, .slice none 0 0, .int .i64 0, .slice none 0 0, .slice none 0 0]) f rfl rfl rfl rfl (by kernel_rfl) ?_; clear f A; intro b4 W5 eb4 hb6 rb4 A f; dsimp only [Value.cells] at rb4
 have o_b1_b4 : b1 < b4 := by have := row_lt rb1; omega
 have z_B0_b4 := B0.size; rw [eb4] at z_B0_b4
 replace B0 := Below.next B0 hb6; replace rb1 := row_next rb1 hb6
 revert A; refine vla (h:=vla (h:=vW (vS (vS (vR (vl5 (rowq rb1) (h:=?_))))))); intro A f
 refine l_call f rfl rfl rfl (IsCall.mk' (cap := []) rfl rfl rfl) (pl rfl) (HC _ (hx.below B0)) ?_
 clear f A
 rintro _ W7 ⟨rfl, hb8⟩
 refine ⟨_, rfl, ?_⟩
 intro A f
 replace B0 := Below.next B0 hb8; replace rb1 := row_next rb1 hb8; replace rb4 := row_next rb4 hb8
 revert A; refine vln (h:=vW (vD (h:=vK (vT (vS (vS (vR (vlm (h:=vlf (h:=vl1 (rowq rb1) (h:=vld (y_sub rfl rfl rfl rfl (by omega)) (h:=?_)))))))))))); intro A f
 refine l_callif _ f rfl rfl rfl (IsCall.mk' (cap := []) rfl rfl rfl) (pl rfl) (in_c _ _ _ _) ?_ ?_
 ·clear f A; intro c9 W11 hb10 A f
  replace B0 := Below.next B0 hb10; replace rb1 := row_next rb1 hb10; replace rb4 := row_next rb4 hb10
  revert A; refine vln (h:=vlm (h:=vlm (h:=?_))); intro A f
  refine l_callif _ f rfl rfl rfl (IsCall.mk' (cap := []) rfl rfl rfl) (pl rfl) (in_c _ _ _ _) ?_ ?_
  ·clear f A; intro c12 W14 hb13 A f
   replace B0 := Below.next B0 hb13; replace rb1 := row_next rb1 hb13; replace rb4 := row_next rb4 hb13
   revert A; refine vln (h:=vlp (h:=vW (vD (h:=vK (vT (vS (vR (vlm (h:=vlc (typeAsked_at _ haf) (h:=?_)))))))))); intro W16 hb15; replace B0 := Below.next B0 hb15; replace rb1 := row_next rb1 hb15; replace rb4 := row_next rb4 hb15
   refine vla (h:=vW (vS (vS (vR (vlm (h:=vlb (y_lss rfl rfl rfl) (h:=?_) (g:=?_)))))))
   ·intro c17
    refine vW (vC (h:=vS (vR (vld (y_build #[.slice none 0 0, .slice none 0 0, .int .i64 0, .slice none 0 0, .slice none 0 0] rfl rfl (by kernel_rfl)) (h:=?_))))); intro A f
    refine vls f rb4 ?_
    clear rb4; intro W18 hb19 rb4; dsimp only [setL, over, Value.cells] at rb4; replace B0 := Below.thenBut B0 hb19 (by omega); replace rb1 := But.row hb19 rb1 (by omega)
    revert A; refine vla (h:=vla (h:=vW (vE (vF ?_)))); intro A f
    refine x_retc2 f rfl rfl rfl rfl (ag rfl) rb4 rfl ?_
    exact ⟨rfl, B0⟩
   intro c17; exfalso; omega
  intro c12; exfalso; omega
 intro c9; exfalso; omega
theorem heapAlloc_ok (w : World) (x : Hx) (cpu o fl : Int) (hx : x.At w) (hM : HMay x.hp) (hc : 0 ≤ cpu ∧ cpu ≤ x.cpus - 1) (ho : ordOk o) (hf : flagsOk fl) :
    Calls Tryz.prog 6 #[.agg #[.slice x.zo x.zn x.zc, .slice x.mo x.mn x.mc, .int .i64 x.cpus, .slice x.lo x.ln x.lc, .slice x.vo x.vn x.vc], .int .i64 cpu, .int .i64 o, .int .i64 fl] w fun e w' => ((find2H x.hp cpu o fl = none ∧ e = .returned (.tuple #[.agg #[.slice none 0 0, .slice none 0 0, .int .i64 0, .slice none 0 0, .slice none 0 0], .int .i64 0, .int .i64 6])) ∨ ∃ (y2 : Hx) (G : Hp) (p : Int), find2H x.hp cpu o fl = some (G, p) ∧ e = .returned (.tuple #[.agg #[.slice y2.zo y2.zn y2.zc, .slice y2.mo y2.mn y2.mc, .int .i64 y2.cpus, .slice y2.lo y2.ln y2.lc, .slice y2.vo y2.vn y2.vc], .int .i64 p, .int .i64 0]) ∧ y2.At w' ∧ y2.hp = { G with live := addB G.live ⟨p, o, typeF fl⟩ }) ∧ Below w.heap.size w w' := by
 have HC : ∀ W, x.At W → Calls Tryz.prog 20 #[.agg #[.slice x.zo x.zn x.zc, .slice x.mo x.mn x.mc, .int .i64 x.cpus, .slice x.lo x.ln x.lc, .slice x.vo x.vn x.vc]] W fun e w' => e = .returned (.bool true) ∧ Below W.heap.size W w' := fun W hW => (heapMay_any W x hW).mono fun e w1 h1 => by
  obtain ⟨⟨r, rfl, hc⟩, hb⟩ := h1
  cases r with
  | false => exact absurd (hc.mpr hM) (by simp)
  | true => exact ⟨rfl, hb⟩
 have hcp : 1 ≤ x.cpus ∧ x.cpus ≤ 4 := hM.cpus
 have haf : askF fl = typeF fl := if_pos hf
 have hf0 : 0 ≤ fl ∧ fl ≤ 15 := hf.1
 have ho2 : 0 ≤ o ∧ o ≤ 4 := ho
 have htf : 0 ≤ typeF fl := (typeF_ok fl).1
 have B0 := Below.refl w.heap.size w
 refine sx_enter (args := [_, _, _, _]) 86 Tryz.func6 rfl rfl rfl ?_
 refine vS (vR ?_); intro A f
 refine l_box f rfl rfl rfl rfl rfl ?_; clear f A; intro b1 W2 eb1 hb3 rb1 A f; dsimp only [Value.cells] at rb1
 have z_B0_b1 := B0.size; rw [eb1] at z_B0_b1
 replace B0 := Below.next B0 hb3
 refine l_alloc (z := .agg #[.slice none 0 0, .slice none 0 0, .int .i64 0, .slice none 0 0, .slice none 0 0]) f rfl rfl rfl rfl (by kernel_rfl) ?_; clear f A; intro b4 W5 eb4 hb6 rb4 A f; dsimp only [Value.cells] at rb4
 have o_b1_b4 : b1 < b4 := by have := row_lt rb1; omega
 have z_B0_b4 := B0.size; rw [eb4] at z_B0_b4
 replace B0 := Below.next B0 hb6; replace rb1 := row_next rb1 hb6
 revert A; refine vla (h:=vla (h:=vW (vS (vS (vR (vl5 (rowq rb1) (h:=?_))))))); intro A f
 refine l_call f rfl rfl rfl (IsCall.mk' (cap := []) rfl rfl rfl) (pl rfl) (HC _ (hx.below B0)) ?_
 clear f A
 rintro _ W7 ⟨rfl, hb8⟩
 refine ⟨_, rfl, ?_⟩
 intro A f
 replace B0 := Below.next B0 hb8; replace rb1 := row_next rb1 hb8; replace rb4 := row_next rb4 hb8
 revert A; refine vln (h:=vW (vD (h:=vK (vT (vS (vS (vR (vlm (h:=vlf (h:=vl1 (rowq rb1) (h:=vld (y_sub rfl rfl rfl rfl (by omega)) (h:=?_)))))))))))); intro A f
 refine l_callif _ f rfl rfl rfl (IsCall.mk' (cap := []) rfl rfl rfl) (pl rfl) (in_c _ _ _ _) ?_ ?_
 ·clear f A; intro c9 W11 hb10 A f
  replace B0 := Below.next B0 hb10; replace rb1 := row_next rb1 hb10; replace rb4 := row_next rb4 hb10
  revert A; refine vln (h:=vlm (h:=vlm (h:=?_))); intro A f
  refine l_callif _ f rfl rfl rfl (IsCall.mk' (cap := []) rfl rfl rfl) (pl rfl) (in_c _ _ _ _) ?_ ?_
  ·clear f A; intro c12 W14 hb13 A f
   replace B0 := Below.next B0 hb13; replace rb1 := row_next rb1 hb13; replace rb4 := row_next rb4 hb13
   revert A; refine vln (h:=vlp (h:=vW (vD (h:=vK (vT (vS (vR (vlm (h:=vlc (typeAsked_at _ haf) (h:=?_)))))))))); intro W16 hb15; replace B0 := Below.next B0 hb15; replace rb1 := row_next rb1 hb15; replace rb4 := row_next rb4 hb15
   refine vla (h:=vW (vS (vS (vR (vlm (h:=vlb (y_lss rfl rfl rfl) (h:=?_) (g:=?_)))))))
   ·intro c17; exfalso; omega
   intro c17
   refine vW (vD (h:=vK (vT (vS (vR (vl5 (rowq rb1) (h:=?_)))))))
   have ly_b1 := row_lt rb1
   have ly_b4 := row_lt rb4
   have hyB := B0.size
   obtain ⟨s5, hs5⟩ : ∃ n, n = W16.heap.size := ⟨_, rfl⟩
   intro A f
   refine l_call f rfl rfl rfl (IsCall.mk' (cap := []) rfl rfl rfl) (pl rfl) (heapCopy_own _ x (hx.below B0)) ?_
   clear f A
   rintro _ W18 ⟨⟨y, rfl, ey, C, haw0⟩, hb19⟩
   refine ⟨_, rfl, ?_⟩
   rw [← hs5] at C haw0
   intro A f
   replace B0 := Below.next B0 hb19; replace rb1 := row_next rb1 hb19; replace rb4 := row_next rb4 hb19
   have aw8 : Away b4 y := haw0 _ (by omega)
   have hzn : 0 < y.zn := by have h1 := C.at_.zones.len; have h2 : y.zs.length = y.hp.zones.length := (by show _ = (y.zs.map _).length; rw [List.length_map]); rw [ey] at h2; have := hM.zs.n; omega
   obtain ⟨gz, HY⟩ := C.hz hzn
   have hgB := HY.gB
   have hgl := HY.lt hzn
   clear C haw0
   have HY0 := HY.at_
   have hmn : MnOk y.hp := by rw [ey]; exact hM.mn
   have hzs : ZsOk y.hp := by rw [ey]; exact hM.zs
   have hls : LssOk y.hp := by rw [ey]; exact hM.ls
   have hcq : y.hp.cpus ≤ 4 := by rw [ey]; exact hM.cpus.2
   have hpg : ∀ q ∈ y.hp.lists.flatMap (·.pages), 0 ≤ q := fun q hq => by rw [ey] at hq; exact (hM.pageR hq).1
   have hlv : y.live.length ≤ 256 := by have e : y.live = x.hp.live := congrArg Hp.live ey; rw [e]; exact live_few hM.lv
   refine l_as (z := .agg #[.slice none 0 0, .slice none 0 0, .int .i64 0, .slice none 0 0, .slice none 0 0]) f rfl rfl rfl rfl (by kernel_rfl) rfl rfl (fun _ => rfl) (fun _ => rfl) rfl (by intro u hu; simp [Value.cells] at hu; rcases hu with rfl | rfl | rfl | rfl | rfl <;> rfl) ?_; clear f A; intro b20 W21 eb20 hb22 rb20 A f
   dsimp only [Value.cells] at rb20
   have hpb20 := hb22
   have o_b1_b20 : b1 < b20 := by have := row_lt rb1; omega
   have o_b4_b20 : b4 < b20 := by have := row_lt rb4; omega
   have z_B0_b20 := B0.size; rw [eb20] at z_B0_b20
   replace B0 := Below.next B0 hb22; replace HY := HY.below hb22; replace rb1 := row_next rb1 hb22; replace rb4 := row_next rb4 hb22
   revert A; refine vW (vS (vR ?_))
   have aw12 : Away b20 y := away_old HY0 (by omega)
   have hgb : gz < b20 := by omega
   refine vla (h:=vW (vS (vS (vR (vla (h:=vW (vB ?_)))))))
   have l8 := row_lt rb4
   have l12 := row_lt rb20
   intro A f
   refine x_loop (fun n A W => ∃ (r : Nat) (Y : Hx) (p : Int), n = 2 - r ∧ r ≤ 2 ∧ Fr A 86 [(1, .int .i64 cpu), (2, .int .i64 o), (3, .int .i64 fl), (8, .pointer (some ⟨b4, 0, none⟩)), (11, .int .i64 (typeF fl)), (12, .pointer (some ⟨b20, 0, none⟩)), (13, .int .i64 p), (14, .int .i64 (r : Nat))] ∧ Below w.heap.size w W ∧ W.heap[b4]? = some (.cells #[.slice none 0 0, .slice none 0 0, .int .i64 0, .slice none 0 0, .slice none 0 0] 27 (0, 0)) ∧ W.heap[b20]? = some (.cells #[.slice Y.zo Y.zn Y.zc, .slice Y.mo Y.mn Y.mc, .int .i64 Y.cpus, .slice Y.lo Y.ln Y.lc, .slice Y.vo Y.vn Y.vc] 27 (0, 0)) ∧ HZ W s5 gz Y ∧ Away b4 Y ∧ Away b20 Y ∧ Y.live = y.live ∧ W21.heap.size ≤ W.heap.size ∧ Phase cpu o fl r Y p y) (n0 := 2) (⟨0, y, -1, rfl, by omega, f.sub ⟨rfl, rfl, rfl, rfl, rfl, rfl, rfl, rfl, trivial⟩, B0, rb4, rb20, HY, aw8, aw12, rfl, Nat.le_refl _, .inl ⟨rfl, rfl, rfl⟩⟩) ?_
   clear f A B0 rb4 rb20 HY aw8 aw12
   rintro n A W23 ⟨r, Y, p, hn, hr2, f, B0, rb4, rb20, HY, aw8, aw12, hYl, hsW, hph⟩
   rcases hph with ⟨rfl, rfl, rfl⟩ | ⟨rfl, rfl, rfl, hno⟩ | ⟨rfl, rfl, hno2⟩ | ⟨hr1, hp0, hyes⟩
   ·skip
    have hsz0 := B0.size
    revert A; refine vS (vS (vR (vlm (h:=vlb (y_lss rfl rfl rfl) (h:=?_) (g:=?_)))))
    ·intro c24
     refine vlm (h:=vlm (h:=vlb (y_lss rfl rfl rfl) (h:=?_) (g:=?_)))
     ·intro c25
      refine vlp (h:=vW (vC (h:=vK (vT (vS (vB (vS (vS (vR (vlm (h:=vlb (y_eql rfl rfl rfl) (h:=?_) (g:=?_))))))))))))
      ·intro c26; exfalso; omega
      intro c26
      refine vW (vD (h:=vK (vT (vS (vS (vR (vlm (h:=vld (y_rem rfl rfl rfl (by decide) (Int.tmod_eq_emod_of_nonneg (by omega))) (h:=vlb (y_eql rfl rfl rfl) (h:=?_) (g:=?_))))))))))
      ·intro c27
       refine vW (vC (h:=vR (vl5 (rowq rb20) (h:=vlm (h:=vlm (h:=vlm (h:=vlm (h:=?_))))))))
       have hq := tried_c _ s5 gz Y 1 cpu o fl HY hmn hzs hls hcq hf.1 (by omega) ho
       intro A f
       rcases hr1 : tryH Y.hp cpu 1 o fl with _ | ⟨G1, p1⟩
       ·skip
        have lt1_b4 := row_lt rb4
        have lt1_b20 := row_lt rb20
        rw [hr1] at hq
        refine l_call f rfl rfl rfl (IsCall.mk' (cap := []) rfl rfl rfl) (pl rfl) hq ?_
        clear f A hq; rintro e W28 ⟨hbt, hcs⟩
        rcases Or.symm hcs with ⟨_, _, _, _, _, _, h, _⟩ | ⟨-, rfl, HY2⟩
        ·cases h
        refine ⟨_, rfl, ?_⟩; intro A f
        have hsb1 := hbt.size
        replace B0 := Below.thenBut B0 hbt (by omega)
        replace HY := HY2
        replace rb4 := But.row hbt rb4 (by omega); replace rb20 := But.row hbt rb20 (by omega)
        revert A; refine vlm (h:=vle (h:=vle (h:=?_))); intro A f
        refine vls f rb20 ?_
        clear rb20; intro W29 hb30 rb20; dsimp only [setL, over, Value.cells] at rb20; replace B0 := Below.thenBut B0 hb30 (by omega); replace rb4 := But.row hb30 rb4 (by omega); have hst := hb30.size; replace HY := HY.but hb30 (by omega) aw12
        revert A; refine vla (h:=vW (vS (vR (vlm (h:=vlb (y_lss rfl rfl rfl) (h:=?_) (g:=?_))))))
        ·intro c31
         refine vW (vC (h:=vR (vl5 (rowq rb20) (h:=vlm (h:=vlm (h:=vlm (h:=vlm (h:=?_))))))))
         have hq := tried_c _ s5 gz Y 0 cpu o fl HY hmn hzs hls hcq hf.1 (by omega) ho
         intro A f
         rcases hr0 : tryH Y.hp cpu 0 o fl with _ | ⟨G0, p0⟩
         ·skip
          have lt0_b4 := row_lt rb4
          have lt0_b20 := row_lt rb20
          rw [hr0] at hq
          refine l_call f rfl rfl rfl (IsCall.mk' (cap := []) rfl rfl rfl) (pl rfl) hq ?_
          clear f A hq; rintro e W32 ⟨hbt, hcs⟩
          rcases Or.symm hcs with ⟨_, _, _, _, _, _, h, _⟩ | ⟨-, rfl, HY2⟩
          ·cases h
          refine ⟨_, rfl, ?_⟩; intro A f
          have hsb0 := hbt.size
          replace B0 := Below.thenBut B0 hbt (by omega)
          replace HY := HY2
          replace rb4 := But.row hbt rb4 (by omega); replace rb20 := But.row hbt rb20 (by omega)
          revert A; refine vlm (h:=vle (h:=vle (h:=?_))); intro A f
          refine vls f rb20 ?_
          clear rb20; intro W33 hb34 rb20; dsimp only [setL, over, Value.cells] at rb20; replace B0 := Below.thenBut B0 hb34 (by omega); replace rb4 := But.row hb34 rb4 (by omega); have hst := hb34.size; replace HY := HY.but hb34 (by omega) aw12
          revert A; refine vla (h:=vN (vU (vT (vR (vlm (h:=vlA (h:=vla (h:=vW ?_))))))))
          have hff : findH Y.hp cpu o fl = none := (findH_two (by omega) hr1).trans hr0
          intro A f
          exact ⟨1, by omega, 1, Y, (-1), by omega, by omega, f.sub ⟨rfl, rfl, rfl, rfl, rfl, rfl, rfl, rfl, trivial⟩, B0, rb4, rb20, HY, aw8, aw12, rfl, by omega, .inr (.inl ⟨rfl, rfl, rfl, hff⟩)⟩
         skip
         have lt0_b4 := row_lt rb4
         have lt0_b20 := row_lt rb20
         rw [hr0] at hq
         refine l_call f rfl rfl rfl (IsCall.mk' (cap := []) rfl rfl rfl) (pl rfl) hq ?_
         clear f A hq; rintro e W35 ⟨hbt, hcs⟩
         rcases hcs with ⟨h, _⟩ | ⟨zs, ls, lo, ln, lc, q, hrr, rfl, HY2, haw⟩
         ·cases h
         have hp0 := tryH_pos hzs (by omega) ho hpg hr0
         rw [hrr] at hr0
         obtain ⟨rfl, rfl⟩ : G0 = _ ∧ p0 = q := by simpa using hrr
         replace aw8 := haw _ (by omega) aw8
         replace aw12 := haw _ (by omega) aw12
         refine ⟨_, rfl, ?_⟩; intro A f
         have hsb0 := hbt.size
         replace B0 := Below.thenBut B0 hbt (by omega)
         replace HY := HY2
         replace rb4 := But.row hbt rb4 (by omega); replace rb20 := But.row hbt rb20 (by omega)
         revert A; refine vlm (h:=vle (h:=vle (h:=?_))); intro A f
         refine vls f rb20 ?_
         clear rb20; intro W36 hb37 rb20; dsimp only [setL, over, Value.cells] at rb20; replace B0 := Below.thenBut B0 hb37 (by omega); replace rb4 := But.row hb37 rb4 (by omega); have hst := hb37.size; replace HY := HY.but hb37 (by omega) aw12
         revert A; refine vla (h:=vN (vU (vT (vR (vlm (h:=vlA (h:=vla (h:=vW ?_))))))))
         have hff : findH Y.hp cpu o fl = some (((Y.withZ zs).withL ls lo ln lc).hp, p0) := (findH_two (by omega) hr1).trans hr0
         intro A f
         exact ⟨1, by omega, 1, ((Y.withZ zs).withL ls lo ln lc), p0, by omega, by omega, f.sub ⟨rfl, rfl, rfl, rfl, rfl, rfl, rfl, rfl, trivial⟩, B0, rb4, rb20, HY, aw8, aw12, rfl, by omega, .inr (.inr (.inr ⟨by omega, hp0, find2_one hff⟩))⟩
        intro c31; exfalso; omega
       skip
       have lt1_b4 := row_lt rb4
       have lt1_b20 := row_lt rb20
       rw [hr1] at hq
       refine l_call f rfl rfl rfl (IsCall.mk' (cap := []) rfl rfl rfl) (pl rfl) hq ?_
       clear f A hq; rintro e W38 ⟨hbt, hcs⟩
       rcases hcs with ⟨h, _⟩ | ⟨zs, ls, lo, ln, lc, q, hrr, rfl, HY2, haw⟩
       ·cases h
       have hp0 := tryH_pos hzs (by omega) ho hpg hr1
       rw [hrr] at hr1
       obtain ⟨rfl, rfl⟩ : G1 = _ ∧ p1 = q := by simpa using hrr
       replace aw8 := haw _ (by omega) aw8
       replace aw12 := haw _ (by omega) aw12
       refine ⟨_, rfl, ?_⟩; intro A f
       have hsb1 := hbt.size
       replace B0 := Below.thenBut B0 hbt (by omega)
       replace HY := HY2
       replace rb4 := But.row hbt rb4 (by omega); replace rb20 := But.row hbt rb20 (by omega)
       revert A; refine vlm (h:=vle (h:=vle (h:=?_))); intro A f
       refine vls f rb20 ?_
       clear rb20; intro W39 hb40 rb20; dsimp only [setL, over, Value.cells] at rb20; replace B0 := Below.thenBut B0 hb40 (by omega); replace rb4 := But.row hb40 rb4 (by omega); have hst := hb40.size; replace HY := HY.but hb40 (by omega) aw12
       revert A; refine vla (h:=vW (vS (vR (vlm (h:=vlb (y_lss rfl rfl rfl) (h:=?_) (g:=?_))))))
       ·intro c41; exfalso; omega
       intro c41
       refine vW (vD (h:=vK (vU (vT (vR (vlm (h:=vlA (h:=vla (h:=vW ?_)))))))))
       have hff : findH Y.hp cpu o fl = some (((Y.withZ zs).withL ls lo ln lc).hp, p1) := findH_one (by omega) hr1
       intro A f
       exact ⟨1, by omega, 1, ((Y.withZ zs).withL ls lo ln lc), p1, by omega, by omega, f.sub ⟨rfl, rfl, rfl, rfl, rfl, rfl, rfl, rfl, trivial⟩, B0, rb4, rb20, HY, aw8, aw12, rfl, by omega, .inr (.inr (.inr ⟨by omega, hp0, find2_one hff⟩))⟩
      intro c27
      refine vW (vD (h:=vK (vT (vS (vR (vlm (h:=vlb (y_lss rfl rfl rfl) (h:=?_) (g:=?_))))))))
      ·intro c42
       refine vW (vC (h:=vR (vl5 (rowq rb20) (h:=vlm (h:=vlm (h:=vlm (h:=vlm (h:=?_))))))))
       have hq := tried_c _ s5 gz Y 0 cpu o fl HY hmn hzs hls hcq hf.1 (by omega) ho
       intro A f
       rcases hr0 : tryH Y.hp cpu 0 o fl with _ | ⟨G0, p0⟩
       ·skip
        have lt0_b4 := row_lt rb4
        have lt0_b20 := row_lt rb20
        rw [hr0] at hq
        refine l_call f rfl rfl rfl (IsCall.mk' (cap := []) rfl rfl rfl) (pl rfl) hq ?_
        clear f A hq; rintro e W43 ⟨hbt, hcs⟩
        rcases Or.symm hcs with ⟨_, _, _, _, _, _, h, _⟩ | ⟨-, rfl, HY2⟩
        ·cases h
        refine ⟨_, rfl, ?_⟩; intro A f
        have hsb0 := hbt.size
        replace B0 := Below.thenBut B0 hbt (by omega)
        replace HY := HY2
        replace rb4 := But.row hbt rb4 (by omega); replace rb20 := But.row hbt rb20 (by omega)
        revert A; refine vlm (h:=vle (h:=vle (h:=?_))); intro A f
        refine vls f rb20 ?_
        clear rb20; intro W44 hb45 rb20; dsimp only [setL, over, Value.cells] at rb20; replace B0 := Below.thenBut B0 hb45 (by omega); replace rb4 := But.row hb45 rb4 (by omega); have hst := hb45.size; replace HY := HY.but hb45 (by omega) aw12
        revert A; refine vla (h:=vN (vU (vT (vR (vlm (h:=vlA (h:=vla (h:=vW ?_))))))))
        have hff : findH Y.hp cpu o fl = none := (findH_low (by omega)).trans hr0
        intro A f
        exact ⟨1, by omega, 1, Y, (-1), by omega, by omega, f.sub ⟨rfl, rfl, rfl, rfl, rfl, rfl, rfl, rfl, trivial⟩, B0, rb4, rb20, HY, aw8, aw12, rfl, by omega, .inr (.inl ⟨rfl, rfl, rfl, hff⟩)⟩
       skip
       have lt0_b4 := row_lt rb4
       have lt0_b20 := row_lt rb20
       rw [hr0] at hq
       refine l_call f rfl rfl rfl (IsCall.mk' (cap := []) rfl rfl rfl) (pl rfl) hq ?_
       clear f A hq; rintro e W46 ⟨hbt, hcs⟩
       rcases hcs with ⟨h, _⟩ | ⟨zs, ls, lo, ln, lc, q, hrr, rfl, HY2, haw⟩
       ·cases h
       have hp0 := tryH_pos hzs (by omega) ho hpg hr0
       rw [hrr] at hr0
       obtain ⟨rfl, rfl⟩ : G0 = _ ∧ p0 = q := by simpa using hrr
       replace aw8 := haw _ (by omega) aw8
       replace aw12 := haw _ (by omega) aw12
       refine ⟨_, rfl, ?_⟩; intro A f
       have hsb0 := hbt.size
       replace B0 := Below.thenBut B0 hbt (by omega)
       replace HY := HY2
       replace rb4 := But.row hbt rb4 (by omega); replace rb20 := But.row hbt rb20 (by omega)
       revert A; refine vlm (h:=vle (h:=vle (h:=?_))); intro A f
       refine vls f rb20 ?_
       clear rb20; intro W47 hb48 rb20; dsimp only [setL, over, Value.cells] at rb20; replace B0 := Below.thenBut B0 hb48 (by omega); replace rb4 := But.row hb48 rb4 (by omega); have hst := hb48.size; replace HY := HY.but hb48 (by omega) aw12
       revert A; refine vla (h:=vN (vU (vT (vR (vlm (h:=vlA (h:=vla (h:=vW ?_))))))))
       have hff : findH Y.hp cpu o fl = some (((Y.withZ zs).withL ls lo ln lc).hp, p0) := (findH_low (by omega)).trans hr0
       intro A f
       exact ⟨1, by omega, 1, ((Y.withZ zs).withL ls lo ln lc), p0, by omega, by omega, f.sub ⟨rfl, rfl, rfl, rfl, rfl, rfl, rfl, rfl, trivial⟩, B0, rb4, rb20, HY, aw8, aw12, rfl, by omega, .inr (.inr (.inr ⟨by omega, hp0, find2_one hff⟩))⟩
      intro c42; exfalso; omega
     intro c25; exfalso; omega
    intro c24; exfalso; omega
   ·skip
    have hsz0 := B0.size
    revert A; refine vS (vS (vR (vlm (h:=vlb (y_lss rfl rfl rfl) (h:=?_) (g:=?_)))))
    ·intro c49
     refine vlm (h:=vlm (h:=vlb (y_lss rfl rfl rfl) (h:=?_) (g:=?_)))
     ·intro c50
      refine vlp (h:=vW (vC (h:=vK (vT (vS (vB (vS (vS (vR (vlm (h:=vlb (y_eql rfl rfl rfl) (h:=?_) (g:=?_))))))))))))
      ·intro c51
       refine vW (vC (h:=vR (vl5 (rowq rb20) (h:=?_)))); intro A f
       refine l_call f rfl rfl rfl (IsCall.mk' (cap := []) rfl rfl rfl) (pl rfl) (emptied_ok _ _ gz Y HY (hp_adj hM Y ey) hzn (by rw [ey]; exact hM.canBacks.1)) ?_
       have lw_b4 := row_lt rb4
       have lw_b20 := row_lt rb20
       clear f A; rintro _ W52 ⟨zsD, rfl, hzsD, HY2, hu, haw⟩
       refine ⟨_, rfl, ?_⟩
       intro A f
       replace B0 := Below.thenBut B0 hu (by omega)
       replace HY := HY2
       replace aw8 := (haw _ (by omega) aw8).noLists
       replace aw12 := (haw _ (by omega) aw12).noLists
       have hsu := hu.size
       replace rb4 := But.row hu rb4 (by omega); replace rb20 := But.row hu rb20 (by omega)
       have hhp1 : (Y.withZ zsD).noLists.hp = emptyH Y.hp := by show ({ (Y.withZ zsD).hp with lists := [] } : Hp) = _; rw [hzsD]; rfl
       have hzsE : ZsOk (Y.withZ zsD).noLists.hp := by rw [hhp1, ey]; exact emptyH_zs hM
       have hlsE : LssOk (Y.withZ zsD).noLists.hp := by rw [hhp1]; exact emptyH_ls _
       have hmnE : MnOk (Y.withZ zsD).noLists.hp := ⟨hmn.n, hmn.a, hmn.b⟩
       have hpgE : ∀ q ∈ (Y.withZ zsD).noLists.hp.lists.flatMap (·.pages), 0 ≤ q := fun q hq => by rw [hhp1] at hq; cases hq
       refine vls f rb20 ?_
       clear rb20; intro W53 hb54 rb20; dsimp only [setL, over, Value.cells] at rb20; replace B0 := Below.thenBut B0 hb54 (by omega); replace rb4 := But.row hb54 rb4 (by omega); have hst := hb54.size; replace HY := HY.but hb54 (by omega) aw12
       revert A; refine vW (vS (vS (vR (vlm (h:=vld (y_rem rfl rfl rfl (by decide) (Int.tmod_eq_emod_of_nonneg (by omega))) (h:=vlb (y_eql rfl rfl rfl) (h:=?_) (g:=?_)))))))
       ·intro c55
        refine vW (vC (h:=vR (vl5 (rowq rb20) (h:=vlm (h:=vlm (h:=vlm (h:=vlm (h:=?_))))))))
        have hq := tried_c _ s5 gz (Y.withZ zsD).noLists 1 cpu o fl HY hmnE hzsE hlsE hcq hf.1 (by omega) ho
        intro A f
        rcases hr1 : tryH (Y.withZ zsD).noLists.hp cpu 1 o fl with _ | ⟨G1, p1⟩
        ·skip
         have lt1_b4 := row_lt rb4
         have lt1_b20 := row_lt rb20
         rw [hr1] at hq
         refine l_call f rfl rfl rfl (IsCall.mk' (cap := []) rfl rfl rfl) (pl rfl) hq ?_
         clear f A hq; rintro e W56 ⟨hbt, hcs⟩
         rcases Or.symm hcs with ⟨_, _, _, _, _, _, h, _⟩ | ⟨-, rfl, HY2⟩
         ·cases h
         refine ⟨_, rfl, ?_⟩; intro A f
         have hsb1 := hbt.size
         replace B0 := Below.thenBut B0 hbt (by omega)
         replace HY := HY2
         replace rb4 := But.row hbt rb4 (by omega); replace rb20 := But.row hbt rb20 (by omega)
         revert A; refine vlm (h:=vle (h:=vle (h:=?_))); intro A f
         refine vls f rb20 ?_
         clear rb20; intro W57 hb58 rb20; dsimp only [setL, over, Value.cells] at rb20; replace B0 := Below.thenBut B0 hb58 (by omega); replace rb4 := But.row hb58 rb4 (by omega); have hst := hb58.size; replace HY := HY.but hb58 (by omega) aw12
         revert A; refine vla (h:=vW (vS (vR (vlm (h:=vlb (y_lss rfl rfl rfl) (h:=?_) (g:=?_))))))
         ·intro c59
          refine vW (vC (h:=vR (vl5 (rowq rb20) (h:=vlm (h:=vlm (h:=vlm (h:=vlm (h:=?_))))))))
          have hq := tried_c _ s5 gz (Y.withZ zsD).noLists 0 cpu o fl HY hmnE hzsE hlsE hcq hf.1 (by omega) ho
          intro A f
          rcases hr0 : tryH (Y.withZ zsD).noLists.hp cpu 0 o fl with _ | ⟨G0, p0⟩
          ·skip
           have lt0_b4 := row_lt rb4
           have lt0_b20 := row_lt rb20
           rw [hr0] at hq
           refine l_call f rfl rfl rfl (IsCall.mk' (cap := []) rfl rfl rfl) (pl rfl) hq ?_
           clear f A hq; rintro e W60 ⟨hbt, hcs⟩
           rcases Or.symm hcs with ⟨_, _, _, _, _, _, h, _⟩ | ⟨-, rfl, HY2⟩
           ·cases h
           refine ⟨_, rfl, ?_⟩; intro A f
           have hsb0 := hbt.size
           replace B0 := Below.thenBut B0 hbt (by omega)
           replace HY := HY2
           replace rb4 := But.row hbt rb4 (by omega); replace rb20 := But.row hbt rb20 (by omega)
           revert A; refine vlm (h:=vle (h:=vle (h:=?_))); intro A f
           refine vls f rb20 ?_
           clear rb20; intro W61 hb62 rb20; dsimp only [setL, over, Value.cells] at rb20; replace B0 := Below.thenBut B0 hb62 (by omega); replace rb4 := But.row hb62 rb4 (by omega); have hst := hb62.size; replace HY := HY.but hb62 (by omega) aw12
           revert A; refine vla (h:=vN (vU (vT (vR (vlm (h:=vlA (h:=vla (h:=vW ?_))))))))
           have hff : findH (Y.withZ zsD).noLists.hp cpu o fl = none := (findH_two (by omega) hr1).trans hr0
           intro A f
           rw [hhp1] at hff
           exact ⟨0, by omega, 2, (Y.withZ zsD).noLists, (-1), by omega, by omega, f.sub ⟨rfl, rfl, rfl, rfl, rfl, rfl, rfl, rfl, trivial⟩, B0, rb4, rb20, HY, aw8, aw12, rfl, by omega, .inr (.inr (.inl ⟨rfl, rfl, (find2_two hno).trans hff⟩))⟩
          skip
          have lt0_b4 := row_lt rb4
          have lt0_b20 := row_lt rb20
          rw [hr0] at hq
          refine l_call f rfl rfl rfl (IsCall.mk' (cap := []) rfl rfl rfl) (pl rfl) hq ?_
          clear f A hq; rintro e W63 ⟨hbt, hcs⟩
          rcases hcs with ⟨h, _⟩ | ⟨zs, ls, lo, ln, lc, q, hrr, rfl, HY2, haw⟩
          ·cases h
          have hp0 := tryH_pos hzsE (by omega) ho hpgE hr0
          rw [hrr] at hr0
          obtain ⟨rfl, rfl⟩ : G0 = _ ∧ p0 = q := by simpa using hrr
          replace aw8 := haw _ (by omega) aw8
          replace aw12 := haw _ (by omega) aw12
          refine ⟨_, rfl, ?_⟩; intro A f
          have hsb0 := hbt.size
          replace B0 := Below.thenBut B0 hbt (by omega)
          replace HY := HY2
          replace rb4 := But.row hbt rb4 (by omega); replace rb20 := But.row hbt rb20 (by omega)
          revert A; refine vlm (h:=vle (h:=vle (h:=?_))); intro A f
          refine vls f rb20 ?_
          clear rb20; intro W64 hb65 rb20; dsimp only [setL, over, Value.cells] at rb20; replace B0 := Below.thenBut B0 hb65 (by omega); replace rb4 := But.row hb65 rb4 (by omega); have hst := hb65.size; replace HY := HY.but hb65 (by omega) aw12
          revert A; refine vla (h:=vN (vU (vT (vR (vlm (h:=vlA (h:=vla (h:=vW ?_))))))))
          have hff : findH (Y.withZ zsD).noLists.hp cpu o fl = some ((((Y.withZ zsD).noLists.withZ zs).withL ls lo ln lc).hp, p0) := (findH_two (by omega) hr1).trans hr0
          intro A f
          rw [hhp1] at hff
          exact ⟨0, by omega, 2, (((Y.withZ zsD).noLists.withZ zs).withL ls lo ln lc), p0, by omega, by omega, f.sub ⟨rfl, rfl, rfl, rfl, rfl, rfl, rfl, rfl, trivial⟩, B0, rb4, rb20, HY, aw8, aw12, rfl, by omega, .inr (.inr (.inr ⟨by omega, hp0, (find2_two hno).trans hff⟩))⟩
         intro c59; exfalso; omega
        skip
        have lt1_b4 := row_lt rb4
        have lt1_b20 := row_lt rb20
        rw [hr1] at hq
        refine l_call f rfl rfl rfl (IsCall.mk' (cap := []) rfl rfl rfl) (pl rfl) hq ?_
        clear f A hq; rintro e W66 ⟨hbt, hcs⟩
        rcases hcs with ⟨h, _⟩ | ⟨zs, ls, lo, ln, lc, q, hrr, rfl, HY2, haw⟩
        ·cases h
        have hp0 := tryH_pos hzsE (by omega) ho hpgE hr1
        rw [hrr] at hr1
        obtain ⟨rfl, rfl⟩ : G1 = _ ∧ p1 = q := by simpa using hrr
        replace aw8 := haw _ (by omega) aw8
        replace aw12 := haw _ (by omega) aw12
        refine ⟨_, rfl, ?_⟩; intro A f
        have hsb1 := hbt.size
        replace B0 := Below.thenBut B0 hbt (by omega)
        replace HY := HY2
        replace rb4 := But.row hbt rb4 (by omega); replace rb20 := But.row hbt rb20 (by omega)
        revert A; refine vlm (h:=vle (h:=vle (h:=?_))); intro A f
        refine vls f rb20 ?_
        clear rb20; intro W67 hb68 rb20; dsimp only [setL, over, Value.cells] at rb20; replace B0 := Below.thenBut B0 hb68 (by omega); replace rb4 := But.row hb68 rb4 (by omega); have hst := hb68.size; replace HY := HY.but hb68 (by omega) aw12
        revert A; refine vla (h:=vW (vS (vR (vlm (h:=vlb (y_lss rfl rfl rfl) (h:=?_) (g:=?_))))))
        ·intro c69; exfalso; omega
        intro c69
        refine vW (vD (h:=vK (vU (vT (vR (vlm (h:=vlA (h:=vla (h:=vW ?_)))))))))
        have hff : findH (Y.withZ zsD).noLists.hp cpu o fl = some ((((Y.withZ zsD).noLists.withZ zs).withL ls lo ln lc).hp, p1) := findH_one (by omega) hr1
        intro A f
        rw [hhp1] at hff
        exact ⟨0, by omega, 2, (((Y.withZ zsD).noLists.withZ zs).withL ls lo ln lc), p1, by omega, by omega, f.sub ⟨rfl, rfl, rfl, rfl, rfl, rfl, rfl, rfl, trivial⟩, B0, rb4, rb20, HY, aw8, aw12, rfl, by omega, .inr (.inr (.inr ⟨by omega, hp0, (find2_two hno).trans hff⟩))⟩
       intro c55
       refine vW (vD (h:=vK (vT (vS (vR (vlm (h:=vlb (y_lss rfl rfl rfl) (h:=?_) (g:=?_))))))))
       ·intro c70
        refine vW (vC (h:=vR (vl5 (rowq rb20) (h:=vlm (h:=vlm (h:=vlm (h:=vlm (h:=?_))))))))
        have hq := tried_c _ s5 gz (Y.withZ zsD).noLists 0 cpu o fl HY hmnE hzsE hlsE hcq hf.1 (by omega) ho
        intro A f
        rcases hr0 : tryH (Y.withZ zsD).noLists.hp cpu 0 o fl with _ | ⟨G0, p0⟩
        ·skip
         have lt0_b4 := row_lt rb4
         have lt0_b20 := row_lt rb20
         rw [hr0] at hq
         refine l_call f rfl rfl rfl (IsCall.mk' (cap := []) rfl rfl rfl) (pl rfl) hq ?_
         clear f A hq; rintro e W71 ⟨hbt, hcs⟩
         rcases Or.symm hcs with ⟨_, _, _, _, _, _, h, _⟩ | ⟨-, rfl, HY2⟩
         ·cases h
         refine ⟨_, rfl, ?_⟩; intro A f
         have hsb0 := hbt.size
         replace B0 := Below.thenBut B0 hbt (by omega)
         replace HY := HY2
         replace rb4 := But.row hbt rb4 (by omega); replace rb20 := But.row hbt rb20 (by omega)
         revert A; refine vlm (h:=vle (h:=vle (h:=?_))); intro A f
         refine vls f rb20 ?_
         clear rb20; intro W72 hb73 rb20; dsimp only [setL, over, Value.cells] at rb20; replace B0 := Below.thenBut B0 hb73 (by omega); replace rb4 := But.row hb73 rb4 (by omega); have hst := hb73.size; replace HY := HY.but hb73 (by omega) aw12
         revert A; refine vla (h:=vN (vU (vT (vR (vlm (h:=vlA (h:=vla (h:=vW ?_))))))))
         have hff : findH (Y.withZ zsD).noLists.hp cpu o fl = none := (findH_low (by omega)).trans hr0
         intro A f
         rw [hhp1] at hff
         exact ⟨0, by omega, 2, (Y.withZ zsD).noLists, (-1), by omega, by omega, f.sub ⟨rfl, rfl, rfl, rfl, rfl, rfl, rfl, rfl, trivial⟩, B0, rb4, rb20, HY, aw8, aw12, rfl, by omega, .inr (.inr (.inl ⟨rfl, rfl, (find2_two hno).trans hff⟩))⟩
        skip
        have lt0_b4 := row_lt rb4
        have lt0_b20 := row_lt rb20
        rw [hr0] at hq
        refine l_call f rfl rfl rfl (IsCall.mk' (cap := []) rfl rfl rfl) (pl rfl) hq ?_
        clear f A hq; rintro e W74 ⟨hbt, hcs⟩
        rcases hcs with ⟨h, _⟩ | ⟨zs, ls, lo, ln, lc, q, hrr, rfl, HY2, haw⟩
        ·cases h
        have hp0 := tryH_pos hzsE (by omega) ho hpgE hr0
        rw [hrr] at hr0
        obtain ⟨rfl, rfl⟩ : G0 = _ ∧ p0 = q := by simpa using hrr
        replace aw8 := haw _ (by omega) aw8
        replace aw12 := haw _ (by omega) aw12
        refine ⟨_, rfl, ?_⟩; intro A f
        have hsb0 := hbt.size
        replace B0 := Below.thenBut B0 hbt (by omega)
        replace HY := HY2
        replace rb4 := But.row hbt rb4 (by omega); replace rb20 := But.row hbt rb20 (by omega)
        revert A; refine vlm (h:=vle (h:=vle (h:=?_))); intro A f
        refine vls f rb20 ?_
        clear rb20; intro W75 hb76 rb20; dsimp only [setL, over, Value.cells] at rb20; replace B0 := Below.thenBut B0 hb76 (by omega); replace rb4 := But.row hb76 rb4 (by omega); have hst := hb76.size; replace HY := HY.but hb76 (by omega) aw12
        revert A; refine vla (h:=vN (vU (vT (vR (vlm (h:=vlA (h:=vla (h:=vW ?_))))))))
        have hff : findH (Y.withZ zsD).noLists.hp cpu o fl = some ((((Y.withZ zsD).noLists.withZ zs).withL ls lo ln lc).hp, p0) := (findH_low (by omega)).trans hr0
        intro A f
        rw [hhp1] at hff
        exact ⟨0, by omega, 2, (((Y.withZ zsD).noLists.withZ zs).withL ls lo ln lc), p0, by omega, by omega, f.sub ⟨rfl, rfl, rfl, rfl, rfl, rfl, rfl, rfl, trivial⟩, B0, rb4, rb20, HY, aw8, aw12, rfl, by omega, .inr (.inr (.inr ⟨by omega, hp0, (find2_two hno).trans hff⟩))⟩
       intro c70; exfalso; omega
      intro c51; exfalso; omega
     intro c50; exfalso; omega
    intro c49; exfalso; omega
   ·skip
    revert A; refine vS (vS (vR (vlm (h:=vlb (y_lss rfl rfl rfl) (h:=?_) (g:=?_)))))
    ·intro c77; exfalso; omega
    intro c77
    refine vlm (h:=vlo (h:=vlo (h:=vlp (h:=vW (vD (h:=vX (vH (vH (vI (vT (vS (vS (vR (vlm (h:=vlb (y_lss rfl rfl rfl) (h:=?_) (g:=?_))))))))))))))))
    ·intro c78
     refine vW (vC (h:=vS (vR (vld (y_build #[.slice none 0 0, .slice none 0 0, .int .i64 0, .slice none 0 0, .slice none 0 0] rfl rfl (by kernel_rfl)) (h:=?_))))); intro A f
     refine vls f rb4 ?_
     clear rb4; intro W79 hb80 rb4; dsimp only [setL, over, Value.cells] at rb4; replace B0 := Below.thenBut B0 hb80 (by omega); replace rb20 := But.row hb80 rb20 (by omega); have hst := hb80.size; replace HY := HY.but hb80 (by omega) aw8
     revert A; refine vla (h:=vla (h:=vW (vE (vF ?_)))); intro A f
     refine x_retc2 f rfl rfl rfl rfl (ag rfl) rb4 rfl ?_
     exact ⟨.inl ⟨by rw [← ey]; exact hno2, rfl⟩, B0⟩
    intro c78; exfalso; omega
   skip
   revert A; refine vS (vS (vR (vlm (h:=vlb (y_lss rfl rfl rfl) (h:=?_) (g:=?_)))))
   ·intro c81
    refine vlm (h:=vlm (h:=vlb (y_lss rfl rfl rfl) (h:=?_) (g:=?_)))
    ·intro c82; exfalso; omega
    intro c82
    refine vlp (h:=vW (vD (h:=vX (vH (vH (vI (vT (vS (vS (vR (vlm (h:=vlb (y_lss rfl rfl rfl) (h:=?_) (g:=?_)))))))))))))
    ·intro c83; exfalso; omega
    intro c83
    refine vW (vD (h:=vK (vT (vS (vR (vlf (h:=vl1 (rowq rb20) (h:=vlm (h:=vlm (h:=vlm (h:=vld (y_build #[.int .i64 p, .int .i64 o, .int .i64 (typeF fl)] rfl rfl (by kernel_rfl)) (h:=?_))))))))))))
    have lv_b4 := row_lt rb4
    have lv_b20 := row_lt rb20
    have hvl := HY.at_.live.len
    intro A f
    rw [hYl] at hvl
    refine l_call f rfl rfl rfl (IsCall.mk' (cap := []) rfl rfl rfl) (pl rfl) (withBlock_any _ Y.vo Y.vn Y.vc Y.live ⟨p, o, typeF fl⟩ HY.at_.live (by omega)) ?_
    clear f A; rintro _ W84 ⟨bo, cb, rfl, own, hb85⟩
    refine ⟨_, rfl, ?_⟩; intro A f
    have ob := owns_blk own
    replace B0 := Below.next B0 hb85; replace HY := HY.below hb85; replace rb4 := row_next rb4 hb85; replace rb20 := row_next rb20 hb85
    revert A; refine vlf (h:=?_); intro A f
    refine vls f rb20 ?_
    clear rb20; intro W86 hb87 rb20; dsimp only [setL, over, Value.cells] at rb20; replace B0 := Below.thenBut B0 hb87 (by omega); replace rb4 := But.row hb87 rb4 (by omega); have hst := hb87.size; replace HY := HY.but hb87 (by omega) aw12; replace own := owns_butN own hb87 (fun a ha => by have := ob a ha; omega)
    revert A; refine vW (vS (vR (vl5 (rowq rb20) (h:=vlm (h:=?_))))); intro A f
    refine vls f rb4 ?_
    clear rb4; intro W88 hb89 rb4; dsimp only [setL, over, Value.cells] at rb4; replace B0 := Below.thenBut B0 hb89 (by omega); replace rb20 := But.row hb89 rb20 (by omega); have hst := hb89.size; replace HY := HY.but hb89 (by omega) aw8; replace own := owns_butN own hb89 (fun a ha => by have := ob a ha; omega)
    revert A; refine vla (h:=vla (h:=vW (vE ?_))); intro A f
    refine x_retc2 f rfl rfl rfl rfl (ag rfl) rb4 rfl ?_
    have hHR := HRestV.of HY.at_
    refine ⟨.inr ⟨Y.withB (addB Y.live ⟨p, o, typeF fl⟩) bo (Y.vn + 1) cb, Y.hp, p, by rw [← ey]; exact hyes, rfl, hHR.at_ own (by omega), rfl⟩, B0⟩
   intro c81
   refine vlm (h:=vlo (h:=vlo (h:=vlp (h:=vW (vD (h:=vX (vH (vH (vI (vT (vS (vS (vR (vlm (h:=vlb (y_lss rfl rfl rfl) (h:=?_) (g:=?_))))))))))))))))
   ·intro c90; exfalso; omega
   intro c90
   refine vW (vD (h:=vK (vT (vS (vR (vlf (h:=vl1 (rowq rb20) (h:=vlm (h:=vlm (h:=vlm (h:=vld (y_build #[.int .i64 p, .int .i64 o, .int .i64 (typeF fl)] rfl rfl (by kernel_rfl)) (h:=?_))))))))))))
   have lv_b4 := row_lt rb4
   have lv_b20 := row_lt rb20
   have hvl := HY.at_.live.len
   intro A f
   rw [hYl] at hvl
   refine l_call f rfl rfl rfl (IsCall.mk' (cap := []) rfl rfl rfl) (pl rfl) (withBlock_any _ Y.vo Y.vn Y.vc Y.live ⟨p, o, typeF fl⟩ HY.at_.live (by omega)) ?_
   clear f A; rintro _ W91 ⟨bo, cb, rfl, own, hb92⟩
   refine ⟨_, rfl, ?_⟩; intro A f
   have ob := owns_blk own
   replace B0 := Below.next B0 hb92; replace HY := HY.below hb92; replace rb4 := row_next rb4 hb92; replace rb20 := row_next rb20 hb92
   revert A; refine vlf (h:=?_); intro A f
   refine vls f rb20 ?_
   clear rb20; intro W93 hb94 rb20; dsimp only [setL, over, Value.cells] at rb20; replace B0 := Below.thenBut B0 hb94 (by omega); replace rb4 := But.row hb94 rb4 (by omega); have hst := hb94.size; replace HY := HY.but hb94 (by omega) aw12; replace own := owns_butN own hb94 (fun a ha => by have := ob a ha; omega)
   revert A; refine vW (vS (vR (vl5 (rowq rb20) (h:=vlm (h:=?_))))); intro A f
   refine vls f rb4 ?_
   clear rb4; intro W95 hb96 rb4; dsimp only [setL, over, Value.cells] at rb4; replace B0 := Below.thenBut B0 hb96 (by omega); replace rb20 := But.row hb96 rb20 (by omega); have hst := hb96.size; replace HY := HY.but hb96 (by omega) aw8; replace own := owns_butN own hb96 (fun a ha => by have := ob a ha; omega)
   revert A; refine vla (h:=vla (h:=vW (vE ?_))); intro A f
   refine x_retc2 f rfl rfl rfl rfl (ag rfl) rb4 rfl ?_
   have hHR := HRestV.of HY.at_
   refine ⟨.inr ⟨Y.withB (addB Y.live ⟨p, o, typeF fl⟩) bo (Y.vn + 1) cb, Y.hp, p, by rw [← ey]; exact hyes, rfl, hHR.at_ own (by omega), rfl⟩, B0⟩
  intro c12; exfalso; omega
 intro c9; exfalso; omega
theorem zPages_ok (w : World) (fo : Option Addr) (fn fc : Nat) (to_ : Option Addr) (tn tc : Nat) (z : Zn) (h : ZnAt w fo fn to_ tn z) (hM : ZMay z) :
    Calls Tryz.prog 61 #[.agg #[.int .i64 z.f, .int .i64 z.t, .slice fo fn fc, .slice to_ tn tc]] w fun e w' => e = .returned (.tuple #[.int .i64 (freeN z.free), .int .i64 0]) ∧ Below w.heap.size w w' := by
 have I0 := ckInv_first w fo fn fc to_ tn tc z h
 have c0 := I0.box.c0
 have c1 := I0.box.c1
 have c2 := I0.box.c2
 have c3 := I0.box.c3
 have hfl := h.free.len
 have hfr := h.free.reach
 clear h
 obtain ⟨n1, n2, n3, n4, n5⟩ := hM.new
 have hF := hM.free
 go_enter Tryz.func61, Tryz.ntmps61
 go_wp2_with fail
 go_at_call 54
 refine (zCheck_ok _ fo fn fc to_ tn tc z I0.zn hM).mono ?_
 rintro e w1 ⟨rfl, hb1⟩
 have I1 := I0.step hb1
 clear I0 c0 c1 c2 c3 hb1 hM
 have c2 := I1.box.c2
 go_wp2
 clear c2
 go_loopw [5, 16] (fun nv iv wr => ∃ k : Nat, k ≤ fn ∧ iv = .int .i64 k ∧ nv = .int .i64 (freeN (z.free.take k)) ∧ CkInv w fo fn fc to_ tn tc z wr) (fun _ iv _ => fn - (intOf iv).toNat)
 case atStart => exact ⟨0, Nat.zero_le _, rfl, rfl, I1⟩
 case round =>
  obtain ⟨k, hk, rfl, rfl, I⟩ := hrel
  clear I1
  by_cases hlt : k < fn
  ·obtain ⟨bb, bf, x, y, u, rfl, x0, x1, x2, hX⟩ := I.zn.free.at_.at k (by omega)
   have htk := take_getD z.free k (by omega) hX.out
   have hB := (freeOk_at hF (by omega) hX.out).1
   have hle : FreeOk z.f z.t z.f none (z.free.take k) := by rw [← List.take_append_drop k z.free] at hF; exact freeOk_left hF
   have hbd := freeN_le hle n5 n2
   have hbx := below_box wr (.cells #[.int .i64 x, .int .i64 y, .int .i64 u] 53)
   have I3 := I.step hbx
   have HS : Hid (freeN (z.free.take (k + 1)) = freeN (z.free.take k) + pw y) := by show _ = _; rw [htk, freeN_snoc]
   obtain ⟨S, hS⟩ : ∃ S, freeN (z.free.take k) = S := ⟨_, rfl⟩
   rw [hS] at hbd HS ⊢
   clear hS htk hle I hbx hF hX
   have hy := hB.1
   clear hB
   rcases ord_cases hy with ⟨rfl, e⟩ | ⟨rfl, e⟩ | ⟨rfl, e⟩ | ⟨rfl, e⟩ | ⟨rfl, e⟩
   all_goals
    clear hy
    have HS2 := HS.out
    rw [e] at HS2
    have HS3 : Hid _ := HS2
    clear HS2 e HS
    go_wp2
    go_roundw
    case rel => exact ⟨k + 1, by omega, by go_num, by rw [HS3.out], I3⟩
    case measure => simp [intOf]; omega
  have HE : Hid (z.free.take k = z.free) := List.take_of_length_le (by omega)
  have hbb := I.b
  rw [HE.out]
  go_wp2
  go_ret2
  exact ⟨rfl, hbb⟩
theorem pTake_c (w : World) (B gz hbk : Nat) (y : Hx) (z : Nat) (cpu o fl : Int) (rh : w.heap[hbk]? = some (.cells #[.slice y.zo y.zn y.zc, .slice y.mo y.mn y.mc, .int .i64 y.cpus, .slice y.lo y.ln y.lc, .slice y.vo y.vn y.vc] 27 (0, 0))) (HY : HZ w B gz y) (hne : hbk ≠ gz) (hT : TabAt w) (hMn : MnOk y.hp) (hZs : ZsOk y.hp) (hf : flag16 fl) (hz : z < 2) (ho : ordOk o) :
    Calls Tryz.prog 36 #[.pointer (some ⟨hbk, 0, none⟩), .int .i64 (z : Nat), .agg #[.int .i64 cpu, .int .i64 o, .int .i64 fl]] w fun e w' => e = .returned (.tuple #[.int .i64 (atO (takeGH y.hp z o fl)), .bool (takeGH y.hp z o fl).isSome]) ∧ (takeGH y.hp z o fl = none → Below w.heap.size w w') ∧ ∃ zs, (y.withZ zs).hp = hpO y.hp (takeGH y.hp z o fl) ∧ HZ w' B gz (y.withZ zs) ∧ But gz w w' ∧ (∀ b, b < w.heap.size → AwayF b y → AwayF b (y.withZ zs)) := by
 have hin : z < y.zn := by have e : y.hp.zones.length = y.zs.length := (by show (y.zs.map _).length = _; rw [List.length_map]); have := hZs.n; have := HY.at_.zones.len; omega
 have hzn : y.zn = 2 := by have e : y.hp.zones.length = y.zs.length := (by show (y.zs.map _).length = _; rw [List.length_map]); have := hZs.n; have := HY.at_.zones.len; omega
 have hzr := HY.at_.zones.reach
 have hgz : gz < w.heap.size := HY.lt (by omega)
 have hrl := row_lt rh
 have ez := HY.ez
 obtain ⟨gz, oz, zz, foz, fnz, fcz, toz, tnz, tcz, haz, c0z, c1z, c2z, c3z, hatz, hXz⟩ := HY.at_.zones.at (z) (by omega)
 replace c0z := St.of c0z; replace c1z := St.of c1z; replace c2z := St.of c2z; replace c3z := St.of c3z
 have hze : y.hp.zones.getD z ⟨0, 0, [], []⟩ = zz := by rw [hp_zone, hXz.out]
 rw [ez] at haz; simp only [Option.some.injEq, Addr.mk.injEq, and_true] at haz; obtain ⟨rfl, rfl⟩ := haz
 have hmz : ZMay zz := by rw [← hze]; rcases (show z = 0 ∨ z = 1 by omega) with rfl | rfl; (exact hZs.m0); exact hZs.m1
 have hnz := hmz.new
 unfold newOk at hnz
 have hfr := freeN_le hmz.free hnz.2.2.2.2 hnz.2.1
 have hpw := pw_pos o
 have hpl := pw_le ho
 have B0 := Below.refl w.heap.size w
 refine sx_enter (args := [_, _, _]) 65 Tryz.func36 rfl rfl rfl ?_
 refine vS (vR ?_); intro A f
 refine l_box f rfl rfl rfl rfl rfl ?_; clear f A; intro b1 W2 eb1 hb3 rb1 A f; dsimp only [Value.cells] at rb1
 have o_hbk_b1 : hbk < b1 := by have := row_lt rh; omega
 have z_B0_b1 := B0.size; rw [eb1] at z_B0_b1
 replace B0 := Below.next B0 hb3; replace HY := HY.below hb3; replace rh := row_next rh hb3
 revert A; refine vla (h:=vla (h:=vW (vS (vR (vlm (h:=vli (h:=vlf (h:=vl1 (rowq rh) (h:=vlm (h:=vlx (h:=vld (y_loadN (vs := [_, _, _, _]) rfl rfl (ag rfl) rfl ⟨(by first | assumption | exact St.q c0z B0 | exact St.q c1z B0 | exact St.q c2z B0 | exact St.q c3z B0), (by first | assumption | exact St.q c0z B0 | exact St.q c1z B0 | exact St.q c2z B0 | exact St.q c3z B0), (by first | assumption | exact St.q c0z B0 | exact St.q c1z B0 | exact St.q c2z B0 | exact St.q c3z B0), (by first | assumption | exact St.q c0z B0 | exact St.q c1z B0 | exact St.q c2z B0 | exact St.q c3z B0), trivial⟩) (h:=vlc (zPages_ok _ _ _ _ _ _ _ zz (hatz.below B0) hmz) (h:=?_))))))))))))); intro W5 hb4; replace B0 := Below.next B0 hb4; replace HY := HY.below hb4; replace rh := row_next rh hb4; replace rb1 := row_next rb1 hb4
 refine vlm (h:=vle (h:=vle (h:=vla (h:=vla (h:=vW (vS (vS ?_))))))); intro A f
 refine sx_quiet (by kernel_rfl) (by kernel_rfl) ?_
 revert A; refine vqm (h:=vqb (y_neq rfl rfl rfl) (h:=?_) (g:=?_))
 ·intro c6; exfalso; omega
 intro c6
 refine vqm (h:=vqm (h:=vqf (h:=vq1 (rowq rb1) (h:=vqd (y_shl1 rfl rfl rfl ho) (h:=vqd (y_sub rfl rfl rfl rfl (by omega)) (h:=vq3 (rowq rb1) (h:=vqm (h:=vqi (h:=vq5 (rowq rh) (h:=vqm (h:=vqc (fun wx hx => (rqHeld_c wx y cpu o fl z (HY.at_.below hx) hMn hZs hf hz).mono (fun e w1 h1 => ⟨h1.1, Below.next hx h1.2⟩)) (h:=vqb (y_lss rfl rfl rfl) (h:=?_) (g:=?_)))))))))))))
 ·intro c7
  refine vqp (h:=vQ ?_); intro W9 hb8; replace B0 := Below.next B0 hb8; replace HY := HY.below hb8; replace rh := row_next rh hb8; replace rb1 := row_next rb1 hb8
  refine vT (vC (h:=vS (vR (vla (h:=vla (h:=vW (vE (vF ?_)))))))); intro A f
  refine x_ret2 f rfl rfl rfl ?_
  have hr : takeGH y.hp z o fl = none := by unfold takeGH; rw [hze, if_pos c7]
  rw [hr]
  exact ⟨rfl, fun _ => B0, y.zs, rfl, HY, But.of_below B0, fun _ _ h => h⟩
 intro c7
 refine vqp (h:=vQ ?_); intro W11 hb10; replace B0 := Below.next B0 hb10; replace HY := HY.below hb10; replace rh := row_next rh hb10; replace rb1 := row_next rb1 hb10
 refine vT (vD (h:=vK (vT (vS ?_)))); intro A f
 refine x_cut (fun A W => ∃ F T ko kn kc lo ln lc a c b, Fr A 65 [(0, .pointer (some ⟨hbk, 0, none⟩)), (1, .int .i64 (z : Nat)), (5, .pointer (some ⟨b1, 0, none⟩)), (10, .pointer (some ⟨b, 0, none⟩)), (11, .int .i64 a), (9, .int .i64 c)] ∧ Below W11.heap.size W11 W ∧ W.heap[b]? = some (.cells #[.int .i64 F, .int .i64 T, .slice ko kn kc, .slice lo ln lc] 37 (0, 0)) ∧ W11.heap.size ≤ b ∧ TkR W11.heap.size W zz o (typeF fl) F T ko kn lo ln a c) ?_ ?_
 ·skip
  refine a_start (ClB W11) (by kernel_rfl) rfl ?_
  generalize hWd : ({ W11 with drawn := W11.drawn + 1 } : World) = Wd
  have hS := drawn_b hWd
  clear hWd
  refine a_do 0 f rfl (by kernel_rfl) blind_cut hS rfl rfl rfl (y_move rfl rfl) ?_; clear f A; intro A f
  refine a_do 1 f rfl (by kernel_rfl) blind_cut hS rfl rfl rfl (y_nil rfl rfl) ?_; clear f A; intro A f
  refine a_do 2 f rfl (by kernel_rfl) blind_cut hS rfl rfl rfl (y_field rfl rfl (fo rfl)) ?_; clear f A; intro A f
  refine a_do 3 f rfl (by kernel_rfl) blind_cut hS rfl rfl rfl (y_load1 rfl rfl (ag rfl) (rowl (rowq rh) rfl)) ?_; clear f A; intro A f
  refine a_do 4 f rfl (by kernel_rfl) blind_cut hS rfl rfl rfl (y_move rfl rfl) ?_; clear f A; intro A f
  refine a_do 5 f rfl (by kernel_rfl) blind_cut hS rfl rfl rfl (y_index rfl rfl (by first | rfl | assumption) rfl (es rfl) (by omega)) ?_; clear f A; intro A f
  refine a_do 6 f rfl (by kernel_rfl) blind_cut hS rfl rfl rfl (y_loadN (vs := [_, _, _, _]) rfl rfl (ag rfl) rfl ⟨(by first | assumption | exact St.q c0z B0 | exact St.q c1z B0 | exact St.q c2z B0 | exact St.q c3z B0), (by first | assumption | exact St.q c0z B0 | exact St.q c1z B0 | exact St.q c2z B0 | exact St.q c3z B0), (by first | assumption | exact St.q c0z B0 | exact St.q c1z B0 | exact St.q c2z B0 | exact St.q c3z B0), (by first | assumption | exact St.q c0z B0 | exact St.q c1z B0 | exact St.q c2z B0 | exact St.q c3z B0), trivial⟩) ?_; clear f A; intro A f
  refine a_do 7 f rfl (by kernel_rfl) blind_cut hS rfl rfl rfl (y_field rfl rfl (fo rfl)) ?_; clear f A; intro A f
  refine a_do 8 f rfl (by kernel_rfl) blind_cut hS rfl rfl rfl (y_load1 rfl rfl (ag rfl) (rowl (rowq rb1) rfl)) ?_; clear f A; intro A f
  refine a_do 9 f rfl (by kernel_rfl) blind_cut hS rfl rfl rfl (y_loadN (vs := [_, _, _]) rfl rfl (ag rfl) rfl (rowls (rowq rb1) _ _ ⟨rfl, rfl, rfl, trivial⟩)) ?_; clear f A; intro A f
  refine a_two 10 16 rfl rfl (by kernel_rfl) rfl rfl ?_ ?_
  ·skip
   refine g_call f (IsCall.mk' (cap := []) rfl rfl rfl) (pl rfl) (rqType_c _ cpu o fl hf) ?_
   rintro _ We ⟨rfl, hbe⟩
   refine ⟨_, rfl, Below.next hS hbe, a_put f rfl rfl ?_⟩; clear f A; intro A f
   replace hS := Below.next hS hbe
   refine a_two 11 16 rfl rfl (by kernel_rfl) rfl rfl ?_ ?_
   ·skip
    have hsz := hS.size
    refine g_call f (IsCall.mk' (cap := []) rfl rfl rfl) (pl rfl) (zTake_both _ foz fnz fcz toz tnz tcz zz o (typeF fl) (hatz.below (Below.next B0 hS)) hmz (hT.below (Below.next B0 hS)) ho (typeF_ok fl)) ?_
    rintro _ Wf ⟨F, T, ko, kn, kc, lo, ln, lc, a, c, rfl, hk, hbf⟩
    refine ⟨_, rfl, Below.next hS hbf, a_put f rfl rfl ?_⟩; clear f A; intro A f
    replace hS := Below.next hS hbf
    refine a_do 12 f rfl (by kernel_rfl) blind_cut hS rfl rfl rfl (y_move rfl rfl) ?_; clear f A; intro A f
    refine a_do 13 f rfl (by kernel_rfl) blind_cut hS rfl rfl rfl (y_ext rfl rfl rfl) ?_; clear f A; intro A f
    refine a_do 14 f rfl (by kernel_rfl) blind_cut hS rfl rfl rfl (y_ext rfl rfl rfl) ?_; clear f A; intro A f
    refine a_do 15 f rfl (by kernel_rfl) blind_cut hS rfl rfl rfl (y_ext rfl rfl rfl) ?_; clear f A; intro A f
    refine a_one 16 rfl (by kernel_rfl) rfl ?_
    have hsa := hS.size
    refine g_alloc (z := .agg #[.int .i64 0, .int .i64 0, .slice none 0 0, .slice none 0 0]) rfl (by kernel_rfl) ?_
    intro bA Wg ebA hbg rbA
    dsimp only [Value.cells] at rbA
    refine ⟨Below.next hS hbg, a_put f rfl rfl ?_⟩; clear f A; intro A f
    have hk1 := hk
    have hbA := hbg
    replace hS := Below.next hS hbg
    replace hk := hk.below hbg
    refine a_one 17 rfl (by kernel_rfl) rfl ?_
    refine g_store f rfl rfl rfl rfl rbA (sz rfl) rfl (Nat.le_of_ble_eq_true rfl) rfl ?_
    clear rbA; intro Wh hbh rbA; dsimp only [setL, over, Value.cells] at rbA
    refine ⟨Below.thenBut hS hbh (by omega), ?_⟩
    replace hS := Below.thenBut hS hbh (by omega)
    replace hk := hk1.below (Below.thenBut hbA hbh (by omega))
    refine a_do 18 f rfl (by kernel_rfl) blind_cut hS rfl rfl rfl (y_assign rfl rfl) ?_; clear f A; intro A f
    refine a_do 19 f rfl (by kernel_rfl) blind_cut hS rfl rfl rfl (y_assign rfl rfl) ?_; clear f A; intro A f
    refine a_end (by kernel_rfl) ?_
    exact ⟨rfl, F, T, ko, kn, kc, lo, ln, lc, a, c, bA, f.sub ⟨rfl, rfl, rfl, rfl, rfl, rfl, trivial⟩, hS, rbA, by omega, hk.weaken hsz⟩
   skip
   have hsa := hS.size
   refine g_alloc (z := .agg #[.int .i64 0, .int .i64 0, .slice none 0 0, .slice none 0 0]) rfl (by kernel_rfl) ?_
   intro bA Wg ebA hbg rbA
   dsimp only [Value.cells] at rbA
   refine ⟨Below.next hS hbg, a_put f rfl rfl ?_⟩; clear f A; intro A f
   replace hS := Below.next hS hbg
   refine a_one 11 rfl (by kernel_rfl) rfl ?_
   have hlb := row_lt rbA
   have hsz := hS.size
   refine g_call f (IsCall.mk' (cap := []) rfl rfl rfl) (pl rfl) (zTake_both _ foz fnz fcz toz tnz tcz zz o (typeF fl) (hatz.below (Below.next B0 hS)) hmz (hT.below (Below.next B0 hS)) ho (typeF_ok fl)) ?_
   rintro _ Wf ⟨F, T, ko, kn, kc, lo, ln, lc, a, c, rfl, hk, hbf⟩
   refine ⟨_, rfl, Below.next hS hbf, a_put f rfl rfl ?_⟩; clear f A; intro A f
   replace hS := Below.next hS hbf
   replace rbA := row_next rbA hbf
   refine a_do 12 f rfl (by kernel_rfl) blind_cut hS rfl rfl rfl (y_move rfl rfl) ?_; clear f A; intro A f
   refine a_do 13 f rfl (by kernel_rfl) blind_cut hS rfl rfl rfl (y_ext rfl rfl rfl) ?_; clear f A; intro A f
   refine a_do 14 f rfl (by kernel_rfl) blind_cut hS rfl rfl rfl (y_ext rfl rfl rfl) ?_; clear f A; intro A f
   refine a_do 15 f rfl (by kernel_rfl) blind_cut hS rfl rfl rfl (y_ext rfl rfl rfl) ?_; clear f A; intro A f
   refine a_one 17 rfl (by kernel_rfl) rfl ?_
   refine g_store f rfl rfl rfl rfl rbA (sz rfl) rfl (Nat.le_of_ble_eq_true rfl) rfl ?_
   clear rbA; intro Wh hbh rbA; dsimp only [setL, over, Value.cells] at rbA
   refine ⟨Below.thenBut hS hbh (by omega), ?_⟩
   replace hS := Below.thenBut hS hbh (by omega)
   replace hk := hk.but hbh hlb
   refine a_do 18 f rfl (by kernel_rfl) blind_cut hS rfl rfl rfl (y_assign rfl rfl) ?_; clear f A; intro A f
   refine a_do 19 f rfl (by kernel_rfl) blind_cut hS rfl rfl rfl (y_assign rfl rfl) ?_; clear f A; intro A f
   refine a_end (by kernel_rfl) ?_
   exact ⟨rfl, F, T, ko, kn, kc, lo, ln, lc, a, c, bA, f.sub ⟨rfl, rfl, rfl, rfl, rfl, rfl, trivial⟩, hS, rbA, by omega, hk.weaken hsz⟩
  skip
  have hsa := hS.size
  refine g_alloc (z := .agg #[.int .i64 0, .int .i64 0, .slice none 0 0, .slice none 0 0]) rfl (by kernel_rfl) ?_
  intro bA Wg ebA hbg rbA
  dsimp only [Value.cells] at rbA
  refine ⟨Below.next hS hbg, a_put f rfl rfl ?_⟩; clear f A; intro A f
  replace hS := Below.next hS hbg
  refine a_one 10 rfl (by kernel_rfl) rfl ?_
  refine g_call f (IsCall.mk' (cap := []) rfl rfl rfl) (pl rfl) (rqType_c _ cpu o fl hf) ?_
  rintro _ We ⟨rfl, hbe⟩
  refine ⟨_, rfl, Below.next hS hbe, a_put f rfl rfl ?_⟩; clear f A; intro A f
  replace hS := Below.next hS hbe
  replace rbA := row_next rbA hbe
  refine a_one 11 rfl (by kernel_rfl) rfl ?_
  have hlb := row_lt rbA
  have hsz := hS.size
  refine g_call f (IsCall.mk' (cap := []) rfl rfl rfl) (pl rfl) (zTake_both _ foz fnz fcz toz tnz tcz zz o (typeF fl) (hatz.below (Below.next B0 hS)) hmz (hT.below (Below.next B0 hS)) ho (typeF_ok fl)) ?_
  rintro _ Wf ⟨F, T, ko, kn, kc, lo, ln, lc, a, c, rfl, hk, hbf⟩
  refine ⟨_, rfl, Below.next hS hbf, a_put f rfl rfl ?_⟩; clear f A; intro A f
  replace hS := Below.next hS hbf
  replace rbA := row_next rbA hbf
  refine a_do 12 f rfl (by kernel_rfl) blind_cut hS rfl rfl rfl (y_move rfl rfl) ?_; clear f A; intro A f
  refine a_do 13 f rfl (by kernel_rfl) blind_cut hS rfl rfl rfl (y_ext rfl rfl rfl) ?_; clear f A; intro A f
  refine a_do 14 f rfl (by kernel_rfl) blind_cut hS rfl rfl rfl (y_ext rfl rfl rfl) ?_; clear f A; intro A f
  refine a_do 15 f rfl (by kernel_rfl) blind_cut hS rfl rfl rfl (y_ext rfl rfl rfl) ?_; clear f A; intro A f
  refine a_one 17 rfl (by kernel_rfl) rfl ?_
  refine g_store f rfl rfl rfl rfl rbA (sz rfl) rfl (Nat.le_of_ble_eq_true rfl) rfl ?_
  clear rbA; intro Wh hbh rbA; dsimp only [setL, over, Value.cells] at rbA
  refine ⟨Below.thenBut hS hbh (by omega), ?_⟩
  replace hS := Below.thenBut hS hbh (by omega)
  replace hk := hk.but hbh hlb
  refine a_do 18 f rfl (by kernel_rfl) blind_cut hS rfl rfl rfl (y_assign rfl rfl) ?_; clear f A; intro A f
  refine a_do 19 f rfl (by kernel_rfl) blind_cut hS rfl rfl rfl (y_assign rfl rfl) ?_; clear f A; intro A f
  refine a_end (by kernel_rfl) ?_
  exact ⟨rfl, F, T, ko, kn, kc, lo, ln, lc, a, c, bA, f.sub ⟨rfl, rfl, rfl, rfl, rfl, rfl, trivial⟩, hS, rbA, by omega, hk.weaken hsz⟩
 skip
 clear f A; rintro A W12 ⟨F, T, ko, kn, kc, lo, ln, lc, a, c, bA, f, hb4, rbA, hbA, hk⟩
 have o_hbk_bA : hbk < bA := by have := row_lt rh; omega
 have o_b1_bA : b1 < bA := by have := row_lt rb1; omega
 have hsA := B0.size
 replace B0 := Below.next B0 hb4; replace HY := HY.below hb4; replace rh := row_next rh hb4; replace rb1 := row_next rb1 hb4
 revert A; refine vT (vS (vS (vR (vlm (h:=vlb (y_neq rfl rfl rfl) (h:=?_) (g:=?_))))))
 ·intro c13
  refine vW (vC (h:=vS (vR (vla (h:=vla (h:=vW (vE (vF ?_)))))))); intro A f
  refine x_ret2 f rfl rfl rfl ?_
  have hC : chooseI zz.free o (typeF fl) < 0 := by rcases hk with h | h; (exact h.1); exact absurd h.1 c13
  have hr : takeGH y.hp z o fl = none := by unfold takeGH; rw [hze, if_neg c7, if_pos hC]
  rw [hr]
  exact ⟨rfl, fun _ => B0, y.zs, rfl, HY, But.of_below B0, fun _ _ h => h⟩
 intro c13
 refine vW (vD (h:=vK (vT (vS ?_)))); intro A f
 rcases hk with ⟨_, hc6⟩ | ⟨_, i, hCi, rfl, rfl, rfl, hz2, hf2, ht2⟩
 ·exfalso; omega
 obtain ⟨Y, hY⟩ : ∃ Y, takeZ zz o (typeF fl) i = Y := ⟨_, rfl⟩
 rw [hY] at hz2 rbA
 have q_hbk := fun wx (h : But gz W12 wx) => But.row h rh (by omega)
 have q_b1 := fun wx (h : But gz W12 wx) => But.row h rb1 (by omega)
 have q_bA := fun wx (h : But gz W12 wx) => But.row h rbA (by omega)
 have hSB : Below w.heap.size w W12 := B0
 refine sx_held (fun wx => But gz W12 wx) [7] (by kernel_rfl) (by kernel_rfl) (blind_then (blind_body)) (But.of_below ((Below.refl _ _).drew)) ?_
 generalize hWd : ({ W12 with drawn := W12.drawn + 1 } : World) = W14
 have hS := but_start gz hWd
 have hdr := drawn_b hWd
 clear hWd
 replace B0 := Below.next B0 hdr; replace HY := HY.below hdr; replace hz2 := hz2.below hdr; replace rh := row_next rh hdr; replace rb1 := row_next rb1 hdr; replace rbA := row_next rbA hdr
 revert A; refine vhm (h:=vhi (h:=vhf (h:=vh1 q_hbk (h:=vhm (h:=vh4 q_bA (h:=vhx (h:=?_)))))))
 have oz := HY.oz
 intro A f
 rw [HY.ez] at oz
 refine h_storeR f rfl rfl rfl rfl rfl rfl (own_set4 oz hin (Zc.q ⟨Y, ko, kn, kc, lo, ln, lc⟩) (Zc.one _) (sz rfl)) (fun _ h => hS.trans h.1) ?_
 rintro W15 ⟨hb16, ow⟩
 have HY2 := HY.set (i := z) (z := ⟨Y, ko, kn, kc, lo, ln, lc⟩) hz2 (fun a ha e => by have := hf2 a ha; omega) (fun a ha e => by have := ht2 a ha; omega) hb16 (by rw [HY.ez]; exact ow)
 have hSf := hS.trans hb16
 revert A; refine vM (vT (vS (vR (vlm (h:=vla (h:=vla (h:=vW (vE ?_)))))))); intro A f
 refine x_ret2 f rfl rfl rfl ?_
 have hr : takeGH y.hp z o fl = some ({ y.hp with zones := y.hp.zones.set z Y }, (zz.free.getD i .zero).a) := by unfold takeGH; rw [hze, if_neg c7, if_neg (by omega), hCi, Int.toNat_natCast, hY]
 rw [hr]
 refine ⟨rfl, (fun h => nomatch h), y.zs.set z ⟨Y, ko, kn, kc, lo, ln, lc⟩, ?_, HY2, ((But.of_below hSB).trans hSf), fun (b : Nat) (hb : b < w.heap.size) (ha : AwayF b y) => AwayF.setZ (b := b) (i := z) (z := ⟨Y, ko, kn, kc, lo, ln, lc⟩) ha (fun a h => by have := hf2 a h; omega) (fun a h => by have := ht2 a h; omega)⟩
 show Hp.mk ((y.zs.set z _).map (·.z)) _ _ _ _ = _
 rw [List.map_set]
 rfl
end Go.Proofs.YtbjlbmofdnkmiaaGreatDoor
