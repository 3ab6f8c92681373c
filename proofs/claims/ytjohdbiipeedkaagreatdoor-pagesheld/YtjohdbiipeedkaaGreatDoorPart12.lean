/-
  OWN TEXTS.
-/
import Derived.Test.YtjohdbiipeedkaaGreatDoorPart11
set_option maxRecDepth 10000
set_option maxHeartbeats 4000000
namespace Go.Proofs.YtjohdbiipeedkaaGreatDoor
open Go Go.RowKit Go.Proofs.YtjohdbiipeedkaaGreatDoor.Kit
theorem owns_ex {P : Nat → Prop} {W W' : World} {base : Nat} {e : TypeId} {ao : Option Addr} {n cap size : Nat} {xs : List Value} (h : W.ownsRow base e size (.slice ao n cap) n xs) (hb : Ex P W W') (hne : ∀ a, ao = some a → ¬ P a.block) : W'.ownsRow base e size (.slice ao n cap) n xs := by
 refine ⟨h.1, ?_⟩
 rcases h.2 with q | ⟨g, cap', cur, q, h1, h2, h3⟩
 ·exact .inl q
 refine .inr ⟨g, cap', cur, q, h1, ?_, h3⟩
 simp only [Value.slice.injEq] at q
 exact hb.row h2 (hne _ q.1)
theorem HOwn.rowV {w : World} {B gz gl gv c : Nat} {y : Hx} (h : HOwn w B gz gl gv y) (hc : AwayP c y) (hz : gz ≠ c) (hw : c < w.heap.size) :
    ∃ g, (∀ a, y.vo = some a → a.block = g) ∧ AwayP g y ∧ gz ≠ g ∧ g < w.heap.size ∧ ((g = gv ∧ ∃ a, y.vo = some a) ∨ g = c) := by
 cases e : y.vo with
 | none => exact ⟨c, (fun a ha => (by cases ha)), hc, hz, hw, .inr rfl⟩
 | some a =>
  have := (owns_blk h.ov a e).2.1
  exact ⟨gv, fun b hb => by rw [← e] at hb; exact h.ev b hb, ⟨fun z hz _ a ha => ((h.zoff z hz).1 a ha).2.2, fun z hz _ a ha => ((h.zoff z hz).2.1 a ha).2.2, fun _ a ha => (h.moff a ha).2.2, fun _ a ha => by rw [h.el a ha]; exact h.lv, fun l hl _ a ha => ((h.loff l hl).1 a ha).2.2⟩, h.zv, by rw [← h.ev a e]; exact this, .inl ⟨rfl, a, rfl⟩⟩
theorem Away.toP {b : Nat} {y : Hx} (h : Away b y) : AwayP b y := ⟨h.f, h.t, h.m, h.l, h.p⟩
theorem pAlloc_fr (w : World) (x : Hx) (cpu o fl : Int) (hx : x.At w) (hM : HMay x.hp) (hT : TabAt w) (hc : 0 ≤ cpu ∧ cpu ≤ x.cpus - 1) (ho : ordOk o) (hf1 : -9223372036854775808 ≤ fl) (hf2 : fl ≤ 9223372036854775807) (hf : flagsOk fl) :
    Calls Tryz.prog 22 #[.agg #[.slice x.zo x.zn x.zc, .slice x.mo x.mn x.mc, .int .i64 x.cpus, .slice x.lo x.ln x.lc, .slice x.vo x.vn x.vc], .int .i64 cpu, .int .i64 o, .int .i64 fl] w fun e w' => ((find2H x.hp cpu o fl = none ∧ e = .returned (.tuple #[.agg #[.slice none 0 0, .slice none 0 0, .int .i64 0, .slice none 0 0, .slice none 0 0], .int .i64 0, .int .i64 6])) ∨ ∃ (y2 : Hx) (G : Hp) (p : Int), find2H x.hp cpu o fl = some (G, p) ∧ e = .returned (.tuple #[.agg #[.slice y2.zo y2.zn y2.zc, .slice y2.mo y2.mn y2.mc, .int .i64 y2.cpus, .slice y2.lo y2.ln y2.lc, .slice y2.vo y2.vn y2.vc], .int .i64 p, .int .i64 0]) ∧ y2.At w' ∧ y2.hp = { G with live := addB G.live ⟨p, o, typeF fl⟩ } ∧ FreshH w.heap.size y2) ∧ Below w.heap.size w w' := by
 have HC : ∀ W, x.At W → Calls Tryz.prog 12 #[.agg #[.slice x.zo x.zn x.zc, .slice x.mo x.mn x.mc, .int .i64 x.cpus, .slice x.lo x.ln x.lc, .slice x.vo x.vn x.vc]] W fun e w' => e = .returned (.int .i64 0) ∧ Below W.heap.size W w' := fun W hW => (pCheck_any W x hW).mono fun e w1 h1 => by
  obtain ⟨⟨c, rfl, hc⟩, hb⟩ := h1
  rcases hc with ⟨rfl, _⟩ | ⟨_, hn⟩
  ·exact ⟨rfl, hb⟩
  exact absurd hM hn
 have hlf := live_few hM.lv
 have hxl := hx.live.len
 rw [show x.hp.live = x.live from rfl] at hlf
 have B0 := Below.refl w.heap.size w
 refine sx_enter (args := [_, _, _, _]) 71 Tryz.func22 rfl rfl rfl ?_
 refine vS (vR ?_); intro A f
 refine l_box f rfl rfl rfl rfl rfl ?_; clear f A; intro b1 W2 eb1 hb3 rb1 A f; dsimp only [Value.cells] at rb1
 have z_B0_b1 := B0.size; rw [eb1] at z_B0_b1
 replace B0 := Below.next B0 hb3
 refine l_alloc (z := .agg #[.slice none 0 0, .slice none 0 0, .int .i64 0, .slice none 0 0, .slice none 0 0]) f rfl rfl rfl rfl (by kernel_rfl) ?_; clear f A; intro b4 W5 eb4 hb6 rb4 A f; dsimp only [Value.cells] at rb4
 have o_b1_b4 : b1 < b4 := by have := row_lt rb1; omega
 have z_B0_b4 := B0.size; rw [eb4] at z_B0_b4
 replace B0 := Below.next B0 hb6; replace rb1 := row_next rb1 hb6
 revert A; refine vla (h:=vla (h:=vW (vS (vS (vR (vl5 (rowq rb1) (h:=vlc (HC _ (hx.below B0)) (h:=?_)))))))); intro W8 hb7; replace B0 := Below.next B0 hb7; replace rb1 := row_next rb1 hb7; replace rb4 := row_next rb4 hb7
 refine vla (h:=vW (vS (vR (vlm (h:=vlb (y_neq rfl rfl rfl) (h:=?_) (g:=?_))))))
 ·intro c9; exfalso; omega
 intro c9
 refine vW (vD (h:=vK (vT (vS (vS (vR (vl5 (rowq rb1) (h:=vlm (h:=vlc (by have e := pIsCpu_any W8 (.slice x.zo x.zn x.zc) (.slice x.mo x.mn x.mc) (.slice x.lo x.ln x.lc) (.slice x.vo x.vn x.vc) x.cpus cpu; rw [inB_t hc] at e; exact e) (h:=?_)))))))))); intro W10 hb11; replace B0 := Below.next B0 hb11; replace rb1 := row_next rb1 hb11; replace rb4 := row_next rb4 hb11
 refine vln (h:=vlm (h:=vlm (h:=vlc (by have e := pIsOrder_any W10 o; rw [inB_t ho] at e; exact c_same e) (h:=?_)))); intro W12 hb13; replace B0 := Below.next B0 hb13; replace rb1 := row_next rb1 hb13; replace rb4 := row_next rb4 hb13
 refine vln (h:=vlp (h:=vW (vD (h:=vK (vT (vS (vS (vR (vlm (h:=vlc (by have e := pAreFlags_c W12 fl hf1 hf2; rw [decide_eq_true hf] at e; exact e) (h:=?_))))))))))); intro W14 hb15; replace B0 := Below.next B0 hb15; replace rb1 := row_next rb1 hb15; replace rb4 := row_next rb4 hb15
 refine vln (h:=vW (vD (h:=vK (vT (vS (vR (vl5 (rowq rb1) (h:=?_))))))))
 have lc_b1 := row_lt rb1
 have lc_b4 := row_lt rb4
 obtain ⟨B, hBd⟩ : ∃ B, B = W14.heap.size := ⟨_, rfl⟩
 have hBw := B0.size
 intro A f
 refine l_call f rfl rfl rfl (IsCall.mk' (cap := []) rfl rfl rfl) (pl rfl) (pCopy_own _ x (hx.below B0)) ?_
 clear f A
 rintro _ W16 ⟨⟨gz, gl, gv, y, rfl, ey, O⟩, hb17⟩
 refine ⟨_, rfl, ?_⟩
 intro A f
 have hcs := hb17.size
 rw [← hBd] at O
 replace B0 := Below.next B0 hb17; replace rb1 := row_next rb1 hb17; replace rb4 := row_next rb4 hb17
 have evl : y.live = x.live := congrArg Hp.live ey
 have hvn : y.vn = x.vn := by have h1 := O.at_.live.len; have h2 := hx.live.len; rw [evl] at h1; omega
 have hyz : 0 < y.zn := by have h1 := O.at_.zones.len; have h2 : y.hp.zones.length = y.zs.length := (by show (y.zs.map _).length = _; rw [List.length_map]); rw [ey] at h2; have h3 := hM.zs.n; omega
 obtain ⟨s10, hs10⟩ : ∃ n, n = W16.heap.size := ⟨_, rfl⟩
 have aw10L : ∀ b, s10 ≤ b → AwayL b y := fun b hb => awayL_old O.at_ (by omega)
 have aw10 : ∀ b, s10 ≤ b → Away b y := fun b hb => away_old O.at_ (by omega)
 have lgz : gz < s10 := by have h1 := O.hz.lt hyz; omega
 have lgl : ∀ a, y.lo = some a → a.block < s10 := fun a ha => by have := (owns_blk O.ol a ha).2.1; omega
 have lgv : ∀ a, y.vo = some a → a.block < s10 := fun a ha => by have := (owns_blk O.ov a ha).2.1; omega
 have lgB := O.gzB
 have lglB := O.glB
 have lgvB := O.gvB
 refine l_as (z := .agg #[.slice none 0 0, .slice none 0 0, .int .i64 0, .slice none 0 0, .slice none 0 0]) f rfl rfl rfl rfl (by kernel_rfl) rfl rfl (fun _ => rfl) (fun _ => rfl) rfl (by intro u hu; simp [Value.cells] at hu; rcases hu with rfl | rfl | rfl | rfl | rfl <;> rfl) ?_; clear f A; intro b18 W19 eb18 hb20 rb18 A f
 dsimp only [Value.cells] at rb18
 have hpb18 := hb20
 have o_b1_b18 : b1 < b18 := by have := row_lt rb1; omega
 have o_b4_b18 : b4 < b18 := by have := row_lt rb4; omega
 have z_B0_b18 := B0.size; rw [eb18] at z_B0_b18
 replace B0 := Below.next B0 hb20; replace O := O.below hb20; replace rb1 := row_next rb1 hb20; replace rb4 := row_next rb4 hb20
 revert A; refine vW (vS (vR (vlm (h:=vlm (h:=vlm (h:=vld (y_build #[.int .i64 cpu, .int .i64 o, .int .i64 fl] rfl rfl (by kernel_rfl)) (h:=?_))))))); intro A f
 refine l_as (z := .agg #[.int .i64 0, .int .i64 0, .int .i64 0]) f rfl rfl rfl rfl (by kernel_rfl) rfl rfl (fun _ => rfl) (fun _ => rfl) rfl (by intro u hu; simp [Value.cells] at hu; rcases hu with rfl | rfl | rfl <;> rfl) ?_; clear f A; intro b21 W22 eb21 hb23 rb21 A f
 dsimp only [Value.cells] at rb21
 have hpb21 := hb23
 have o_b1_b21 : b1 < b21 := by have := row_lt rb1; omega
 have o_b4_b21 : b4 < b21 := by have := row_lt rb4; omega
 have o_b18_b21 : b18 < b21 := by have := row_lt rb18; omega
 have z_B0_b21 := B0.size; rw [eb21] at z_B0_b21
 replace B0 := Below.next B0 hb23; replace O := O.below hb23; replace rb1 := row_next rb1 hb23; replace rb4 := row_next rb4 hb23; replace rb18 := row_next rb18 hb23
 revert A; refine vW (vS (vR (vl3 (rowq rb21) (h:=?_))))
 have lf_b1 := row_lt rb1
 have lf_b4 := row_lt rb4
 have lf_b18 := row_lt rb18
 have lf_b21 := row_lt rb21
 obtain ⟨gL, e1, e2, e3, e4, e5⟩ := O.rowL (c := b1) (by omega) (by omega)
 have hL12 : b18 ≠ gL := by rcases e5 with ⟨e, a, ha⟩ | e; (have g1 := lgl a ha; have g2 := O.el a ha; omega); omega
 have hL13 : b21 ≠ gL := by rcases e5 with ⟨e, a, ha⟩ | e; (have g1 := lgl a ha; have g2 := O.el a ha; omega); omega
 have hL8 : b4 ≠ gL := by rcases e5 with ⟨e, _⟩ | e <;> omega
 have hLw : w.heap.size ≤ gL := by rcases e5 with ⟨e, _⟩ | e <;> omega
 obtain ⟨gV, v1, v2, v3, v4, v5⟩ := O.rowV (c := b21) (aw10 _ (by omega)).toP (by omega) (by omega)
 have hVL : gV ≠ gL := by
  rcases v5 with ⟨e, _⟩ | e
  ·rcases e5 with ⟨e', _⟩ | e'
   ·have := O.lv; omega
   omega
  omega
 have hV12 : b18 ≠ gV := by rcases v5 with ⟨e, a, ha⟩ | e; (have g1 := lgv a ha; have g2 := v1 a ha; omega); omega
 have hV8 : b4 ≠ gV := by rcases v5 with ⟨e, _⟩ | e <;> omega
 have hVw : w.heap.size ≤ gV := by rcases v5 with ⟨e, _⟩ | e <;> omega
 have hVle : gV ≤ b21 := by rcases v5 with ⟨e, a, ha⟩ | e; (have g1 := lgv a ha; have g2 := v1 a ha; omega); omega
 have hMn : MnOk y.hp := by rw [ey]; exact hM.mn
 have hZs : ZsOk y.hp := by rw [ey]; exact hM.zs
 have hls : LssOk y.hp := by rw [ey]; exact hM.ls
 have hcp : y.hp.cpus ≤ 4 := by rw [ey]; exact hM.cpus.2
 have hTW := hT.below B0
 have hBp : 0 < B := by have := hT.pos; omega
 have hq := pFind_c _ B gz gL b18 y cpu o fl rb18 O.hz O.ol e1 e2 (aw10L _ (by omega)) (by omega) hL12 e3 e4 (by omega) hTW hMn hZs hls hcp (fun l hl => (O.loff l hl).2.2) hf.1 ho hBp
 intro A f
 rcases hr1 : findH y.hp cpu o fl with _ | ⟨G, p⟩
 ·skip
  rw [hr1] at hq
  refine l_call f rfl rfl rfl (IsCall.mk' (cap := []) rfl rfl rfl) (pl rfl) hq ?_
  clear f A; rintro _ W24 ⟨rfl, hgot⟩; refine ⟨_, rfl, ?_⟩; intro A f
  clear hq
  have hb25 : Below W22.heap.size W22 W24 := by rcases hgot with h | h; (exact h.2); exact absurd rfl h.1
  clear hgot
  replace B0 := Below.next B0 hb25; replace O := O.below hb25; replace rb1 := row_next rb1 hb25; replace rb4 := row_next rb4 hb25; replace rb18 := row_next rb18 hb25; replace rb21 := row_next rb21 hb25
  revert A; refine vlm (h:=vle (h:=vle (h:=vla (h:=vla (h:=vW (vS (vS (vR (vlm (h:=vln (h:=vW (vC (h:=vS (vS (vR ?_)))))))))))))))
  have ld_b1 := row_lt rb1
  have ld_b4 := row_lt rb4
  have ld_b18 := row_lt rb18
  have ld_b21 := row_lt rb21
  have hsD := B0.size
  intro A f
  refine l_call f rfl rfl rfl (IsCall.mk' (cap := []) rfl rfl rfl) (pl rfl) (pdrainF_ok _ B gz b18 y rb18 O.hz (by omega) (aw10 _ (by omega)) (by rw [ey]; exact hM.canBacks.1)) ?_
  clear f A
  rintro _ W26 ⟨rfl, zsD, hzsD, HYD, rD, hbuD, hafD⟩
  refine ⟨_, rfl, ?_⟩
  intro A f
  have hexD : Ex (fun k => k = gz ∨ k = b18) _ _ := Ex.of_bu2 hbuD (.inl rfl) (.inr rfl)
  have hszD := hexD.size
  have ovD := owns_ex O.ov hexD (fun a ha => by have g1 := v1 a ha; have g2 := lgv a ha; rintro (e | e) <;> omega)
  replace B0 := B0.trans (hexD.belowB (fun k hk => by rcases hk with e | e <;> omega) (by omega))
  replace rb1 := hexD.row rb1 (by rintro (e | e) <;> omega)
  replace rb4 := hexD.row rb4 (by rintro (e | e) <;> omega)
  replace rb21 := hexD.row rb21 (by rintro (e | e) <;> omega)
  revert A; refine vla (h:=vW (vS (vR (vlm (h:=vlb (y_neq rfl rfl rfl) (h:=?_) (g:=?_))))))
  ·intro c27; exfalso; omega
  intro c27
  refine vW (vD (h:=vK (vT (vR (vl3 (rowq rb21) (h:=?_))))))
  have lg_b1 := row_lt rb1
  have lg_b4 := row_lt rb4
  have lg_b21 := row_lt rb21
  have lg_b18 := row_lt rD
  have hTW2 := hT.below B0
  have hhp1 : (y.withZ zsD).noLists.hp = emptyH y.hp := by show ({ (y.withZ zsD).hp with lists := [] } : Hp) = _; rw [hzsD]; rfl
  intro A f
  have hAF := hafD b1 (by omega) ⟨(O.away (by omega)).f, (O.away (by omega)).t⟩
  have hAF12 := hafD b18 (by omega) ⟨(aw10 _ (by omega)).f, (aw10 _ (by omega)).t⟩
  have hAFV := hafD gV (by omega) ⟨v2.f, v2.t⟩
  have alE : AwayL b1 (y.withZ zsD).noLists := ⟨fun _ a ha => by have ha' : y.zo = some a := ha; rw [O.ez] at ha'; cases ha'; dsimp only; omega, hAF.f, hAF.t, (O.awayLow (by omega)).m, fun l hl => (by cases hl), (O.awayLow (by omega)).v⟩
  have ahE : AwayL b18 (y.withZ zsD).noLists := ⟨fun _ a ha => by have ha' : y.zo = some a := ha; rw [O.ez] at ha'; cases ha'; dsimp only; omega, hAF12.f, hAF12.t, (aw10L _ (by omega)).m, fun l hl => (by cases hl), (aw10L _ (by omega)).v⟩
  have v2E : AwayP gV (y.withZ zsD).noLists := ⟨hAFV.f, hAFV.t, v2.m, fun h0 => absurd h0 (Nat.lt_irrefl 0), fun l hl => (by cases hl)⟩
  have hMnE : MnOk (y.withZ zsD).noLists.hp := ⟨hMn.n, hMn.a, hMn.b⟩
  have hZsE : ZsOk (y.withZ zsD).noLists.hp := by rw [hhp1, ey]; exact emptyH_zs hM
  have hlsE : LssOk (y.withZ zsD).noLists.hp := by rw [hhp1]; exact emptyH_ls _
  have hq := pFind_c _ B gz b1 b18 (y.withZ zsD).noLists cpu o fl rD HYD (World.ownsRow_nil _ _ _ _) (fun a ha => by cases ha) alE ahE (by omega) (by omega) (by omega) (by omega) (by omega) hTW2 hMnE hZsE hlsE hcp (fun l hl => by cases hl) hf.1 ho hBp
  rw [hhp1] at hq
  rcases hr2 : findH (emptyH y.hp) cpu o fl with _ | ⟨G, p⟩
  ·skip
   rw [hr2] at hq
   refine l_call f rfl rfl rfl (IsCall.mk' (cap := []) rfl rfl rfl) (pl rfl) hq ?_
   clear f A; rintro _ W28 ⟨rfl, hgot⟩; refine ⟨_, rfl, ?_⟩; intro A f
   clear hq
   have hb29 : Below W26.heap.size W26 W28 := by rcases hgot with h | h; (exact h.2); exact absurd rfl h.1
   clear hgot
   replace B0 := Below.next B0 hb29; replace HYD := HYD.below hb29; replace rb1 := row_next rb1 hb29; replace rb4 := row_next rb4 hb29; replace rb21 := row_next rb21 hb29; replace rD := row_next rD hb29; replace ovD := owns_below ovD hb29 (Nat.le_refl _)
   revert A; refine vlm (h:=vle (h:=vle (h:=vla (h:=vla (h:=vW (vS (vS (vR (vlm (h:=vln (h:=vW (vC (h:=vS (vR (vld (y_build #[.slice none 0 0, .slice none 0 0, .int .i64 0, .slice none 0 0, .slice none 0 0] rfl rfl (by kernel_rfl)) (h:=?_)))))))))))))))); intro A f
   refine vls f rb4 ?_
   clear rb4; intro W30 hb31 rb4; dsimp only [setL, over, Value.cells] at rb4; replace B0 := Below.thenBut B0 hb31 (by omega); replace rb1 := But.row hb31 rb1 (by omega); replace rb21 := But.row hb31 rb21 (by omega); replace rD := But.row hb31 rD (by omega)
   revert A; refine vla (h:=vla (h:=vW (vE (vF ?_)))); intro A f
   refine x_retc2 f rfl rfl rfl rfl (ag rfl) rb4 rfl ?_
   have hfd : find2H x.hp cpu o fl = none := by rw [← ey, find2_two hr1]; exact hr2
   exact ⟨.inl ⟨hfd, rfl⟩, B0⟩
  skip
  rw [hr2] at hq
  refine l_call f rfl rfl rfl (IsCall.mk' (cap := []) rfl rfl rfl) (pl rfl) hq ?_
  clear f A; rintro _ W32 ⟨rfl, hgot⟩; refine ⟨_, rfl, ?_⟩; intro A f
  clear hq
  rcases hgot with ⟨h, _⟩ | ⟨_, zs, ls, lo, ln, lc, rh2, hAt2, hhp2, hex, haw⟩
  ·cases h
  have hfr := fun (b : Nat) (hbw : b < w.heap.size) => haw b (by omega) (by omega) ⟨(hafD _ (by omega) ⟨(O.away (b := b) (by omega)).f, (O.away (b := b) (by omega)).t⟩).f, (hafD _ (by omega) ⟨(O.away (b := b) (by omega)).f, (O.away (b := b) (by omega)).t⟩).t, (O.away (b := b) (by omega)).m, fun h0 => absurd h0 (Nat.lt_irrefl 0), fun l hl => (by cases hl)⟩
  have hexs := hex.size
  have haw8 := haw b4 (by omega) (by omega) ⟨(hafD _ (by omega) ⟨(O.away (b := b4) (by omega)).f, (O.away (b := b4) (by omega)).t⟩).f, (hafD _ (by omega) ⟨(O.away (b := b4) (by omega)).f, (O.away (b := b4) (by omega)).t⟩).t, (O.away (b := b4) (by omega)).m, fun h0 => absurd h0 (Nat.lt_irrefl 0), fun l hl => (by cases hl)⟩
  have hawV := haw gV (by omega) (by rcases v5 with ⟨e, _⟩ | e <;> omega) v2E
  have haw12 := haw b18 (by omega) (by omega) ⟨ahE.f, ahE.t, ahE.m, fun h0 => absurd h0 (Nat.lt_irrefl 0), fun l hl => (by cases hl)⟩
  have ov2 := owns_ex ovD hex (fun a ha => by have := v1 a ha; rintro (e | e | e) <;> omega)
  replace B0 := B0.trans (hex.belowB (fun k hk => by rcases hk with e | e | e <;> omega) (by omega))
  replace rb4 := hex.row rb4 (by rintro (e | e | e) <;> omega)
  replace rb21 := hex.row rb21 (by rintro (e | e | e) <;> omega)
  revert A; refine vlm (h:=vle (h:=vle (h:=vla (h:=vla (h:=vW (vS (vS (vR (vlm (h:=vln (h:=vW (vD (h:=vK (vT (vS (vR ?_))))))))))))))))
  have hez := O.ez
  intro A f
  clear O
  revert A; refine vlm (h:=vlm (h:=vl3 (rowq rb21) (h:=vlc (rqType_c _ cpu o fl hf.1) (h:=?_)))); intro W35 hb34; replace B0 := Below.next B0 hb34; replace hAt2 := hAt2.below hb34; replace rb4 := row_next rb4 hb34; replace rb21 := row_next rb21 hb34; replace rh2 := row_next rh2 hb34; replace ov2 := owns_below ov2 hb34 (Nat.le_refl _)
  refine vld (y_build #[.int .i64 p, .int .i64 o, .int .i64 (typeF fl)] rfl rfl (by kernel_rfl)) (h:=?_)
  have hlz := row_lt rh2
  have hl8 := row_lt rb4
  have hl13 := row_lt rb21
  have hsz2 := B0.size
  intro A f
  refine l_call f rfl rfl rfl (IsCall.mk' (cap := []) rfl rfl rfl) (pl rfl) (pAddLive_c _ B gV b18 (((y.withZ zsD).noLists.withZ zs).withL ls lo ln lc) ⟨p, o, typeF fl⟩ rh2 hAt2 ov2 v1 hawV haw12 (fun a ha => by have ha' : y.zo = some a := ha; rw [hez] at ha'; cases ha'; exact v3) (fun a ha => by have ha' : y.zo = some a := ha; rw [hez] at ha'; cases ha'; dsimp only; omega) hV12 (by show y.vn ≤ 256; omega) (by omega) (by omega)) ?_
  clear f A
  rintro _ W36 ⟨rfl, vo3, vc3, rh3, hAt3, hbu3, hvo3⟩
  refine ⟨_, rfl, ?_⟩
  intro A f
  have hex3 : Ex (fun k => k = b18 ∨ k = gV) _ _ := Ex.of_bu2 hbu3 (.inl rfl) (.inr rfl)
  replace rb4 := hex3.row rb4 (by rintro (e | e) <;> omega)
  replace B0 := B0.trans (hex3.belowB (fun k hk => by rcases hk with e | e <;> omega) (by omega))
  have aw8 : Away b4 ((((y.withZ zsD).noLists.withZ zs).withL ls lo ln lc).withB (addB (((y.withZ zsD).noLists.withZ zs).withL ls lo ln lc).live ⟨p, o, typeF fl⟩) vo3 (y.vn + 1) vc3) := ⟨haw8.f, haw8.t, haw8.m, haw8.l, haw8.p, fun _ a ha => by rcases hvo3 a ha with e | e <;> omega⟩
  have hfr3 : FreshH w.heap.size ((((y.withZ zsD).noLists.withZ zs).withL ls lo ln lc).withB (addB (((y.withZ zsD).noLists.withZ zs).withL ls lo ln lc).live ⟨p, o, typeF fl⟩) vo3 (y.vn + 1) vc3) := fun b hbw => ⟨⟨(hfr b hbw).f, (hfr b hbw).t, (hfr b hbw).m, (hfr b hbw).l, (hfr b hbw).p, fun _ a ha => by rcases hvo3 a ha with e | e <;> omega⟩, fun c hc => by have hc2 : y.zo = some c := hc; rw [hez] at hc2; cases hc2; dsimp only; omega⟩
  revert A; refine vW (vS (vR (vl5 (rowq rh3) (h:=vlm (h:=?_))))); intro A f
  refine vls f rb4 ?_
  clear rb4; intro W37 hb38 rb4; dsimp only [setL, over, Value.cells] at rb4; replace B0 := Below.thenBut B0 hb38 (by omega); replace rh3 := But.row hb38 rh3 (by omega); replace hAt3 := at_butA hAt3 hb38 aw8 (fun c hc => by have hc' : y.zo = some c := hc; rw [hez] at hc'; cases hc'; dsimp only; omega)
  revert A; refine vla (h:=vla (h:=vW (vE ?_))); intro A f
  refine x_retc2 f rfl rfl rfl rfl (ag rfl) rb4 rfl ?_
  have hfd : find2H x.hp cpu o fl = some (G, p) := by rw [← ey, find2_two hr1]; exact hr2
  refine ⟨.inr ⟨_, G, p, hfd, rfl, hAt3, ?_, hfr3⟩, B0⟩
  show ({ (((y.withZ zsD).noLists.withZ zs).withL ls lo ln lc).hp with live := addB (((y.withZ zsD).noLists.withZ zs).withL ls lo ln lc).hp.live ⟨p, o, typeF fl⟩ } : Hp) = _
  rw [hhp2]
  rfl
 skip
 rw [hr1] at hq
 refine l_call f rfl rfl rfl (IsCall.mk' (cap := []) rfl rfl rfl) (pl rfl) hq ?_
 clear f A; rintro _ W39 ⟨rfl, hgot⟩; refine ⟨_, rfl, ?_⟩; intro A f
 clear hq
 rcases hgot with ⟨h, _⟩ | ⟨_, zs, ls, lo, ln, lc, rh2, hAt2, hhp2, hex, haw⟩
 ·cases h
 have hfr := fun (b : Nat) (hbw : b < w.heap.size) => haw b (by omega) (by omega) (O.away (by omega)).toP
 have hexs := hex.size
 have haw8 := haw b4 (by omega) (by omega) (O.away (by omega)).toP
 have hawV := haw gV (by omega) hVL v2
 have haw12 := haw b18 (by omega) (by omega) (aw10 _ (by omega)).toP
 have ov2 := owns_ex O.ov hex (fun a ha => by have := v1 a ha; rintro (e | e | e) <;> omega)
 replace B0 := B0.trans (hex.belowB (fun k hk => by rcases hk with e | e | e <;> omega) (by omega))
 replace rb4 := hex.row rb4 (by rintro (e | e | e) <;> omega)
 replace rb21 := hex.row rb21 (by rintro (e | e | e) <;> omega)
 revert A; refine vlm (h:=vle (h:=vle (h:=vla (h:=vla (h:=vW (vS (vS (vR (vlm (h:=vln (h:=vW (vD (h:=vK (vT (vS (vS (vR (vlm (h:=vln (h:=vW (vD (h:=vK (vT (vS (vR ?_)))))))))))))))))))))))))
 have hez := O.ez
 intro A f
 clear O
 revert A; refine vlm (h:=vlm (h:=vl3 (rowq rb21) (h:=vlc (rqType_c _ cpu o fl hf.1) (h:=?_)))); intro W42 hb41; replace B0 := Below.next B0 hb41; replace hAt2 := hAt2.below hb41; replace rb4 := row_next rb4 hb41; replace rb21 := row_next rb21 hb41; replace rh2 := row_next rh2 hb41; replace ov2 := owns_below ov2 hb41 (Nat.le_refl _)
 refine vld (y_build #[.int .i64 p, .int .i64 o, .int .i64 (typeF fl)] rfl rfl (by kernel_rfl)) (h:=?_)
 have hlz := row_lt rh2
 have hl8 := row_lt rb4
 have hl13 := row_lt rb21
 have hsz2 := B0.size
 intro A f
 refine l_call f rfl rfl rfl (IsCall.mk' (cap := []) rfl rfl rfl) (pl rfl) (pAddLive_c _ B gV b18 ((y.withZ zs).withL ls lo ln lc) ⟨p, o, typeF fl⟩ rh2 hAt2 ov2 v1 hawV haw12 (fun a ha => by have ha' : y.zo = some a := ha; rw [hez] at ha'; cases ha'; exact v3) (fun a ha => by have ha' : y.zo = some a := ha; rw [hez] at ha'; cases ha'; dsimp only; omega) hV12 (by show y.vn ≤ 256; omega) (by omega) (by omega)) ?_
 clear f A
 rintro _ W43 ⟨rfl, vo3, vc3, rh3, hAt3, hbu3, hvo3⟩
 refine ⟨_, rfl, ?_⟩
 intro A f
 have hex3 : Ex (fun k => k = b18 ∨ k = gV) _ _ := Ex.of_bu2 hbu3 (.inl rfl) (.inr rfl)
 replace rb4 := hex3.row rb4 (by rintro (e | e) <;> omega)
 replace B0 := B0.trans (hex3.belowB (fun k hk => by rcases hk with e | e <;> omega) (by omega))
 have aw8 : Away b4 (((y.withZ zs).withL ls lo ln lc).withB (addB ((y.withZ zs).withL ls lo ln lc).live ⟨p, o, typeF fl⟩) vo3 (y.vn + 1) vc3) := ⟨haw8.f, haw8.t, haw8.m, haw8.l, haw8.p, fun _ a ha => by rcases hvo3 a ha with e | e <;> omega⟩
 have hfr3 : FreshH w.heap.size (((y.withZ zs).withL ls lo ln lc).withB (addB ((y.withZ zs).withL ls lo ln lc).live ⟨p, o, typeF fl⟩) vo3 (y.vn + 1) vc3) := fun b hbw => ⟨⟨(hfr b hbw).f, (hfr b hbw).t, (hfr b hbw).m, (hfr b hbw).l, (hfr b hbw).p, fun _ a ha => by rcases hvo3 a ha with e | e <;> omega⟩, fun c hc => by have hc2 : y.zo = some c := hc; rw [hez] at hc2; cases hc2; dsimp only; omega⟩
 revert A; refine vW (vS (vR (vl5 (rowq rh3) (h:=vlm (h:=?_))))); intro A f
 refine vls f rb4 ?_
 clear rb4; intro W44 hb45 rb4; dsimp only [setL, over, Value.cells] at rb4; replace B0 := Below.thenBut B0 hb45 (by omega); replace rh3 := But.row hb45 rh3 (by omega); replace hAt3 := at_butA hAt3 hb45 aw8 (fun c hc => by have hc' : y.zo = some c := hc; rw [hez] at hc'; cases hc'; dsimp only; omega)
 revert A; refine vla (h:=vla (h:=vW (vE ?_))); intro A f
 refine x_retc2 f rfl rfl rfl rfl (ag rfl) rb4 rfl ?_
 have hfd : find2H x.hp cpu o fl = some (G, p) := by rw [← ey]; exact find2_one hr1
 refine ⟨.inr ⟨_, G, p, hfd, rfl, hAt3, ?_, hfr3⟩, B0⟩
 show ({ ((y.withZ zs).withL ls lo ln lc).hp with live := addB ((y.withZ zs).withL ls lo ln lc).hp.live ⟨p, o, typeF fl⟩ } : Hp) = _
 rw [hhp2]
 rfl
theorem bDel_all (w : World) (base n cap i : Nat) (lo : Option Addr) (l : List Bk) (hi : i < n) (hn : n ≤ 300) (own : w.ownsRow base 40 3 (.slice lo n cap) n (bvals l)) :
    Calls Tryz.prog 30 #[.slice lo n cap, .int .i64 i, .int .i64 ((i : Int) + 1)] w fun e w' => ∃ g, lo = some ⟨g, 0, none⟩ ∧ e = .returned (.slice lo (n - 1 : Nat) cap) ∧
     w'.ownsRow base 40 3 (.slice lo (n - 1) cap) (n - 1) (bvals (l.eraseIdx i)) ∧ But g w w' := by
 obtain ⟨N, rfl⟩ : ∃ N, n = N + 1 := ⟨n - 1, by omega⟩
 rcases own.2 with ⟨_, e2⟩ | ⟨g, cap', cur, e1, _⟩
 ·omega
 simp only [Value.slice.injEq] at e1
 obtain ⟨rfl, _, _⟩ := e1
 refine (bDel_any w base g N cap i l (by omega) (by omega) own).mono ?_
 rintro e w' ⟨rfl, h1, h2⟩
 exact ⟨g, rfl, rfl, h1, h2⟩
def Kit.Hx.withV (y : Hx) (l : List Bk) (n : Nat) : Hx := { y with live := l, vn := n }
theorem HOwn.withV {w w' : World} {B gz gl gv : Nat} {y : Hx} (h : HOwn w B gz gl gv y) (hb : But gv w w') {l : List Bk} {n : Nat} (ov : w'.ownsRow B 40 3 (.slice y.vo n y.vc) n (bvals l)) (hr : n * 24 ≤ 140737488351232) : HOwn w' B gz gl gv (y.withV l n) := by
 refine ⟨owns_butN h.oz hb (fun a ha => by have ha' : y.zo = some a := ha; rw [h.ez] at ha'; cases ha'; exact h.zv), owns_butN h.ol hb (fun a ha => by rw [h.el a ha]; exact h.lv), ov, h.ez, h.el, h.ev, ?_, h.zl, h.zv, h.lv, h.zoff, h.loff, h.moff, h.mfresh, h.gzB, h.glB, h.gvB⟩
 refine ⟨zons_but h.at_.zones hb (fun _ a ha => by have ha' : y.zo = some a := ha; rw [h.ez] at ha'; cases ha'; exact h.zv) (fun z hz _ a ha => ((h.zoff z hz).1 a ha).2.2) (fun z hz _ a ha => ((h.zoff z hz).2.1 a ha).2.2), nums_but h.at_.mins hb (fun _ a ha => (h.moff a ha).2.2), ⟨h.at_.lists.len, h.at_.lists.reach, ?_, fun l hl => nums_but (h.at_.lists.at_ l hl) hb (fun _ a ha => ((h.loff l hl).1 a ha).2.2)⟩, ⟨bowns_len ov, hr, blks_of_owns ov⟩⟩
 exact h.at_.lists.cells.but hb (fun a ha => by rw [h.el a ha]; exact h.lv)
theorem pFreeF_c (w : World) (b : Bk) (g : Nat) (p : Int) (hq : St w ⟨g, 0, none⟩ (.int .i64 p)) :
    Calls Tryz.prog 40 #[.agg #[.int .i64 b.a, .int .i64 b.o, .int .i64 b.t], .pointer (some ⟨g, 0, none⟩)] w fun e w' => e = .returned (.bool (decide (b.a = p))) ∧ Below w.heap.size w w' := by
 have B0 := Below.refl w.heap.size w
 refine sx_enter (args := [_, _]) 8 Tryz.func40 rfl rfl rfl ?_
 refine vS (vR ?_); intro A f
 refine l_box f rfl rfl rfl rfl rfl ?_; clear f A; intro b1 W2 eb1 hb3 rb1 A f; dsimp only [Value.cells] at rb1
 have z_B0_b1 := B0.size; rw [eb1] at z_B0_b1
 replace B0 := Below.next B0 hb3
 revert A; refine vla (h:=vW (vS (vR (vlf (h:=vl1 (rowq rb1) (h:=vld (y_load1 rfl rfl (ag rfl) (St.q hq B0)) (h:=vld (y_eql rfl rfl rfl) (h:=vla (h:=vW (vE ?_)))))))))); intro A f
 refine x_ret1 f rfl rfl ?_
 exact ⟨rfl, B0⟩
theorem freeIdx (w : World) (vo : Option Addr) (vn vc g : Nat) (l : List Bk) (p : Int) (hb : Blks w vo vn l) (hq : St w ⟨g, 0, none⟩ (.int .i64 p)) :
    Calls Tryz.prog 39 #[.slice vo vn vc, .func (.func 40) #[] #[.pointer (some ⟨g, 0, none⟩)]] w fun e w' => FoundAt e l (fun b => decide (b.a = p)) ∧ Below w.heap.size w w' :=
 bIndex_any w 40 #[.pointer (some ⟨g, 0, none⟩)] vo vn vc l _ hb (fun args W => pl rfl args W) (fun i _ W hW => pFreeF_c W (l.getD i .zero) g p (fun wx hx => hq wx (Below.next hW hx)))
theorem hmid_live {x y : Hx} (h : HMid x.hp) (e : y.hp = x.hp) (l : List Bk) (n : Nat) : HMid (y.withV l n).hp := by
 rw [← e] at h
 exact ⟨⟨h.zs.n, h.zs.m0, h.zs.m1, h.zs.f0, h.zs.f1, h.zs.t1⟩, ⟨fun i hi => ⟨(h.ls.ok i hi).c, (h.ls.ok i hi).z, (h.ls.ok i hi).t, (h.ls.ok i hi).n, (h.ls.ok i hi).p⟩, h.ls.ord⟩, h.cpus, h.cnt⟩
theorem live_back {x y : Hx} (h : HMay x.hp) {n : Nat} {i : Nat} (hm : HMid (y.withV (y.live.eraseIdx i) n).hp) (e : y.hp = x.hp) (hi : i < x.live.length) {a o t : Int} (hb : x.live.getD i .zero = ⟨a, o, t⟩) : CanBack (y.withV (y.live.eraseIdx i) n).hp a o := by
 have hl := h.lv.ok i hi
 rw [show x.hp.live = x.live from rfl, hb] at hl
 have hg := fun p => cnt_ge (l := x.live) hi p
 rw [hb] at hg
 exact (backH_ok (H := (y.withV (y.live.eraseIdx i) n).hp) hm.zs (a := a) (o := o) hl.o hl.m hl.a.1 hl.a.2 (fun p => by
  have h1 := h.cntLe p
  have h2 : hit a o p ≤ Kit.cnt x.live p := hg p
  have h3 : zcnt (y.withV (y.live.eraseIdx i) n).hp p = zcnt x.hp p := by rw [← e]; rfl
  rw [h3]
  have h4 : Kit.cnt x.hp.live p = Kit.cnt x.live p := rfl
  omega)).1
theorem HOwn.but10 {w w' : World} {B gz gl gv b : Nat} {y : Hx} (h : HOwn w B gz gl gv y) (hb : But b w w') (a : AwayL b y) (h1 : gz ≠ b) (h2 : ∀ a, y.lo = some a → a.block ≠ b) (h3 : gv ≠ b) : HOwn w' B gz gl gv y :=
 ⟨owns_butN h.oz hb (fun a ha => by rw [h.ez] at ha; cases ha; exact h1), owns_butN h.ol hb h2, owns_butN h.ov hb (fun a ha => by rw [h.ev a ha]; exact h3), h.ez, h.el, h.ev,
  ⟨zons_but h.at_.zones hb a.z a.f a.t, nums_but h.at_.mins hb a.m, ⟨h.at_.lists.len, h.at_.lists.reach, h.at_.lists.cells.but hb h2, fun l hl => nums_but (h.at_.lists.at_ l hl) hb (a.p l hl)⟩, blks_but h.at_.live hb a.v⟩,
  h.zl, h.zv, h.lv, h.zoff, h.loff, h.moff, h.mfresh, h.gzB, h.glB, h.gvB⟩
theorem HOwn.liveLt {w : World} {B gz gl gv : Nat} {y : Hx} (h : HOwn w B gz gl gv y) (h0 : 0 < y.vn) : gv < w.heap.size := by
 rcases h.ov.2 with ⟨_, e2⟩ | ⟨g, cap', cur, e1, _⟩
 ·omega
 simp only [Value.slice.injEq] at e1
 have h1 := h.ev _ e1.1
 have h2 := (owns_blk h.ov _ e1.1).2.1
 omega
theorem pFree_fr (w : World) (x : Hx) (cpu p : Int) (i : Nat) (hx : x.At w) (hM : HMay x.hp) (hc : 0 ≤ cpu ∧ cpu ≤ x.cpus - 1) (hi : i < x.live.length) (hia : (x.live.getD i .zero).a = p) (hfst : ∀ k, k < i → (x.live.getD k .zero).a ≠ p) :
    Calls Tryz.prog 17 #[.agg #[.slice x.zo x.zn x.zc, .slice x.mo x.mn x.mc, .int .i64 x.cpus, .slice x.lo x.ln x.lc, .slice x.vo x.vn x.vc], .int .i64 cpu, .int .i64 p] w fun e w' => (∃ y2 : Hx, e = .returned (.tuple #[.agg #[.slice y2.zo y2.zn y2.zc, .slice y2.mo y2.mn y2.mc, .int .i64 y2.cpus, .slice y2.lo y2.ln y2.lc, .slice y2.vo y2.vn y2.vc], .int .i64 0]) ∧ y2.At w' ∧ y2.hp = releaseH { x.hp with live := x.hp.live.eraseIdx i } cpu (x.live.getD i .zero) ∧ FreshH w.heap.size y2) ∧ Below w.heap.size w w' := by
 have HC : ∀ W, x.At W → Calls Tryz.prog 12 #[.agg #[.slice x.zo x.zn x.zc, .slice x.mo x.mn x.mc, .int .i64 x.cpus, .slice x.lo x.ln x.lc, .slice x.vo x.vn x.vc]] W fun e w' => e = .returned (.int .i64 0) ∧ Below W.heap.size W w' := fun W hW => (pCheck_any W x hW).mono fun e w1 h1 => by
  obtain ⟨⟨c, rfl, hc⟩, hb⟩ := h1
  rcases hc with ⟨rfl, _⟩ | ⟨_, hn⟩
  ·exact ⟨rfl, hb⟩
  exact absurd hM hn
 have HIx : ∀ (g : Nat) W, x.At W → St W ⟨g, 0, none⟩ (.int .i64 p) → Calls Tryz.prog 39 #[.slice x.vo x.vn x.vc, .func (.func 40) #[] #[.pointer (some ⟨g, 0, none⟩)]] W fun e w' => e = .returned (.int .i64 (i : Nat)) ∧ Below W.heap.size W w' := fun g W hW hq => (freeIdx W x.vo x.vn x.vc g x.live p hW.live hq).mono fun e w1 h1 => by
  obtain ⟨h2, hb⟩ := h1
  refine ⟨?_, hb⟩
  rcases h2 with ⟨k, hk, rfl, h3, h4⟩ | ⟨rfl, h3⟩
  ·have : k = i := by
    rcases Nat.lt_trichotomy k i with g | g | g
    ·exact absurd (of_decide_eq_true h3) (hfst k g)
    ·exact g
    exact absurd hia (of_decide_eq_false (h4 i g))
   rw [this]
  exact absurd hia (of_decide_eq_false (h3 i hi))
 have hlf := live_few hM.lv
 have hxl := hx.live.len
 rw [show x.hp.live = x.live from rfl] at hlf
 have B0 := Below.refl w.heap.size w
 refine sx_enter (args := [_, _, _]) 51 Tryz.func17 rfl rfl rfl ?_
 refine vS (vR ?_); intro A f
 refine l_box f rfl rfl rfl rfl rfl ?_; clear f A; intro b1 W2 eb1 hb3 rb1 A f; dsimp only [Value.cells] at rb1
 have z_B0_b1 := B0.size; rw [eb1] at z_B0_b1
 replace B0 := Below.next B0 hb3
 refine l_box f rfl rfl rfl rfl rfl ?_; clear f A; intro b4 W5 eb4 hb6 rb4 A f; dsimp only [Value.cells] at rb4
 have o_b1_b4 : b1 < b4 := by have := row_lt rb1; omega
 have z_B0_b4 := B0.size; rw [eb4] at z_B0_b4
 replace B0 := Below.next B0 hb6; replace rb1 := row_next rb1 hb6
 refine l_alloc (z := .agg #[.slice none 0 0, .slice none 0 0, .int .i64 0, .slice none 0 0, .slice none 0 0]) f rfl rfl rfl rfl (by kernel_rfl) ?_; clear f A; intro b7 W8 eb7 hb9 rb7 A f; dsimp only [Value.cells] at rb7
 have o_b1_b7 : b1 < b7 := by have := row_lt rb1; omega
 have o_b4_b7 : b4 < b7 := by have := row_lt rb4; omega
 have z_B0_b7 := B0.size; rw [eb7] at z_B0_b7
 replace B0 := Below.next B0 hb9; replace rb1 := row_next rb1 hb9; replace rb4 := row_next rb4 hb9
 revert A; refine vla (h:=vW (vS (vS (vR (vl5 (rowq rb1) (h:=vlc (HC _ (hx.below B0)) (h:=?_))))))); intro W11 hb10; replace B0 := Below.next B0 hb10; replace rb1 := row_next rb1 hb10; replace rb4 := row_next rb4 hb10; replace rb7 := row_next rb7 hb10
 refine vla (h:=vW (vS (vR (vlm (h:=vlb (y_neq rfl rfl rfl) (h:=?_) (g:=?_))))))
 ·intro c12; exfalso; omega
 intro c12
 refine vW (vD (h:=vK (vT (vS (vS (vR (vl5 (rowq rb1) (h:=vlm (h:=vlc (by have e := pIsCpu_any W11 (.slice x.zo x.zn x.zc) (.slice x.mo x.mn x.mc) (.slice x.lo x.ln x.lc) (.slice x.vo x.vn x.vc) x.cpus cpu; rw [inB_t hc] at e; exact e) (h:=?_)))))))))); intro W13 hb14; replace B0 := Below.next B0 hb14; replace rb1 := row_next rb1 hb14; replace rb4 := row_next rb4 hb14; replace rb7 := row_next rb7 hb14
 refine vln (h:=vW (vD (h:=vK (vT (vS (vR (vlf (h:=vl1 (rowq rb1) (h:=vld (y_func rfl rfl) (h:=?_))))))))))
 have HI := HIx _ _ (hx.below B0) (St.of (by rw [cell_of_row _ _ _ _ _ _ rb4]; rfl))
 intro A f
 refine l_call f rfl rfl rfl (IsCall.mk' (cap := []) rfl rfl rfl) (pl rfl) HI ?_; clear f A; rintro _ W15 ⟨rfl, hb16⟩; refine ⟨_, rfl, ?_⟩; intro A f; replace B0 := Below.next B0 hb16; replace rb1 := row_next rb1 hb16; replace rb4 := row_next rb4 hb16; replace rb7 := row_next rb7 hb16
 revert A; refine vla (h:=vW (vS (vS (vR (vlm (h:=vlb (y_lss rfl rfl rfl) (h:=?_) (g:=?_)))))))
 ·intro c17; exfalso; omega
 intro c17
 refine vW (vD (h:=vK (vT (vS (vR (vl5 (rowq rb1) (h:=?_)))))))
 have lc_b1 := row_lt rb1
 have lc_b4 := row_lt rb4
 have lc_b7 := row_lt rb7
 obtain ⟨B, hBd⟩ : ∃ B, B = W15.heap.size := ⟨_, rfl⟩
 have hBw := B0.size
 intro A f
 refine l_call f rfl rfl rfl (IsCall.mk' (cap := []) rfl rfl rfl) (pl rfl) (pCopy_own _ x (hx.below B0)) ?_
 clear f A
 rintro _ W18 ⟨⟨gz, gl, gv, y, rfl, ey, O⟩, hb19⟩
 refine ⟨_, rfl, ?_⟩
 intro A f
 have hcs := hb19.size
 rw [← hBd] at O
 replace B0 := Below.next B0 hb19; replace rb1 := row_next rb1 hb19; replace rb4 := row_next rb4 hb19; replace rb7 := row_next rb7 hb19
 have evl : y.live = x.live := congrArg Hp.live ey
 have hvn : y.vn = x.vn := by have h1 := O.at_.live.len; have h2 := hx.live.len; rw [evl] at h1; omega
 have hyz : 0 < y.zn := by have h1 := O.at_.zones.len; have h2 : y.hp.zones.length = y.zs.length := (by show (y.zs.map _).length = _; rw [List.length_map]); rw [ey] at h2; have h3 := hM.zs.n; omega
 have O10 := O
 have s10 : W18.heap.size = W18.heap.size := rfl
 refine l_as (z := .agg #[.slice none 0 0, .slice none 0 0, .int .i64 0, .slice none 0 0, .slice none 0 0]) f rfl rfl rfl rfl (by kernel_rfl) rfl rfl (fun _ => rfl) (fun _ => rfl) rfl (by intro u hu; simp [Value.cells] at hu; rcases hu with rfl | rfl | rfl | rfl | rfl <;> rfl) ?_; clear f A; intro b20 W21 eb20 hb22 rb20 A f
 dsimp only [Value.cells] at rb20
 have hpb20 := hb22
 have o_b1_b20 : b1 < b20 := by have := row_lt rb1; omega
 have o_b4_b20 : b4 < b20 := by have := row_lt rb4; omega
 have o_b7_b20 : b7 < b20 := by have := row_lt rb7; omega
 have z_B0_b20 := B0.size; rw [eb20] at z_B0_b20
 replace B0 := Below.next B0 hb22; replace O := O.below hb22; replace rb1 := row_next rb1 hb22; replace rb4 := row_next rb4 hb22; replace rb7 := row_next rb7 hb22
 revert A; refine vW (vS (vR ?_))
 have aw10L : AwayL b20 y := awayL_old O10.at_ (by omega)
 have lgz : gz < b20 := by have h1 := O10.hz.lt hyz; omega
 have lgB := O10.gzB
 have lgl : ∀ a, y.lo = some a → a.block ≠ b20 := fun a ha => by have := (owns_blk O10.ol a ha).2.1; omega
 have lgv : gv < b20 := by have h1 := O10.liveLt (by omega); omega
 intro A f
 clear O10
 revert A; refine vlf (h:=vl1 (rowq rb20) (h:=vlm (h:=vlm (h:=vlA (h:=?_)))))
 have ld_b1 := row_lt rb1
 have ld_b4 := row_lt rb4
 have ld_b7 := row_lt rb7
 have ld_b20 := row_lt rb20
 intro A f
 refine l_call f rfl rfl rfl (IsCall.mk' (cap := []) rfl rfl rfl) (pl rfl) (bDel_all _ B y.vn y.vc i y.vo y.live (by omega) (by omega) O.ov) ?_
 clear f A
 rintro _ W23 ⟨g, hg, rfl, ov1, hb24⟩
 refine ⟨_, rfl, ?_⟩
 intro A f
 have hgg : g = gv := O.ev _ hg
 rw [hgg] at hb24
 have hgvB := O.gvB
 replace O := O.withV hb24 ov1 (by have := O.at_.live.reach; omega)
 replace B0 := Below.thenBut B0 hb24 (by omega); replace rb1 := But.row hb24 rb1 (by omega); replace rb4 := But.row hb24 rb4 (by omega); replace rb7 := But.row hb24 rb7 (by omega); replace rb20 := But.row hb24 rb20 (by omega)
 revert A; refine vlf (h:=?_); intro A f
 refine vls f rb20 ?_
 clear rb20; intro W25 hb26 rb20; dsimp only [setL, over, Value.cells] at rb20; replace B0 := Below.thenBut B0 hb26 (by omega); replace rb1 := But.row hb26 rb1 (by omega); replace rb4 := But.row hb26 rb4 (by omega); replace rb7 := But.row hb26 rb7 (by omega); have aw10V : AwayL b20 (y.withV (y.live.eraseIdx i) (y.vn - 1)) := ⟨aw10L.z, aw10L.f, aw10L.t, aw10L.m, aw10L.p, fun _ a ha => by rw [O.ev a ha]; omega⟩
 replace O := O.but10 hb26 aw10V (by omega) lgl (by omega)
 revert A; refine vW (vS (vS (vR (vlm (h:=vlf (h:=vl1 (rowq rb1) (h:=vlm (h:=?_))))))))
 obtain ⟨gb, ob, bab, bob, btb, hab, c0b, c1b, c2b, hXb⟩ := hx.live.at_.at (i) (by have := hx.live.len; omega)
 replace c0b := St.of c0b; replace c1b := St.of c1b; replace c2b := St.of c2b
 refine vlx (h:=vld (y_loadN (vs := [_, _, _]) rfl rfl (ag rfl) rfl ⟨(by first | assumption | exact St.q c0b B0 | exact St.q c1b B0 | exact St.q c2b B0), (by first | assumption | exact St.q c0b B0 | exact St.q c1b B0 | exact St.q c2b B0), (by first | assumption | exact St.q c0b B0 | exact St.q c1b B0 | exact St.q c2b B0), trivial⟩) (h:=?_))
 have lr6 := row_lt rb7
 have lr10 := row_lt rb20
 obtain ⟨gL, e1, e2, e3, e4, e5⟩ := O.rowL (c := b1) (by omega) (by omega)
 have hglB := O.glB
 have hzlt : gz < W25.heap.size := by omega
 have hm : HMid (y.withV (y.live.eraseIdx i) (y.vn - 1)).hp := hmid_live (HMid.of hM) ey _ _
 have hbk : x.live.getD i .zero = ⟨bab, bob, btb⟩ := hXb.out
 have hlo := hM.lv.ok i hi
 intro A f
 rw [show x.hp.live = x.live from rfl, hbk] at hlo
 have hgL10 : b20 ≠ gL := by rcases e5 with ⟨e, a, ha⟩ | e; (have g1 := lgl a ha; have g2 := O.el a ha; omega); omega
 have hgL6 : b7 ≠ gL := by rcases e5 with ⟨e, _⟩ | e <;> omega
 have hgLw : w.heap.size ≤ gL := by rcases e5 with ⟨e, _⟩ | e <;> omega
 refine l_call f rfl rfl rfl (IsCall.mk' (cap := []) rfl rfl rfl) (pl rfl) (pRelease_ok _ B gz gL b20 (y.withV (y.live.eraseIdx i) (y.vn - 1)) cpu bab bob btb rb20 O.hz O.ol e1 e2 aw10V (by omega) hgL10 e3 e4 hzlt (fun l hl => (O.loff l hl).2.2) hm hlo.a (by omega) hlo.o.1 (fun _ => live_back hM hm ey hi hbk)) ?_
 clear f A
 rintro _ W27 ⟨rfl, y2, rh2, hAt2, hy2, hex, haw, hzo⟩
 refine ⟨_, rfl, ?_⟩
 intro A f
 have hfr : FreshH w.heap.size y2 := fun b hb => ⟨haw b (by omega) (by omega) (O.away (by omega)), fun c hc => by rw [hzo] at hc; have h1 : (y.withV (y.live.eraseIdx i) (y.vn - 1)).zo = some ⟨gz, 0, none⟩ := O.ez; rw [h1] at hc; cases hc; dsimp only; omega⟩
 have aw6 := haw b7 (by omega) hgL6 (O.away (by omega))
 have hz6 : ∀ c, y2.zo = some c → c.block ≠ b7 := fun c hc => by rw [hzo] at hc; have h1 : (y.withV (y.live.eraseIdx i) (y.vn - 1)).zo = some ⟨gz, 0, none⟩ := O.ez; rw [h1] at hc; cases hc; dsimp only; omega
 replace B0 := B0.trans (hex.belowB (fun k hk => by rcases hk with e | e | e <;> omega) (by omega))
 replace rb7 := hex.row rb7 (by rintro (e | e | e) <;> omega)
 clear hex haw
 revert A; refine vla (h:=vW (vS (vR (vlm (h:=vlb (y_neq rfl rfl rfl) (h:=?_) (g:=?_))))))
 ·intro c28; exfalso; omega
 intro c28
 refine vW (vD (h:=vK (vT (vS (vR (vl5 (rowq rh2) (h:=?_))))))); intro A f
 refine vls f rb7 ?_
 clear rb7; intro W29 hb30 rb7; dsimp only [setL, over, Value.cells] at rb7; replace B0 := Below.thenBut B0 hb30 (by omega); replace rh2 := But.row hb30 rh2 (by omega); replace hAt2 := at_butA hAt2 hb30 aw6 hz6
 revert A; refine vla (h:=vW (vE ?_)); intro A f
 refine x_retc1 f rfl rfl rfl (ag rfl) rb7 rfl ?_
 exact ⟨⟨y2, rfl, hAt2, hy2.trans (by rw [show (y.withV (y.live.eraseIdx i) (y.vn - 1)).hp = { x.hp with live := x.hp.live.eraseIdx i } from by rw [← ey]; rfl, hbk]), hfr⟩, B0⟩
def drainH (H : Hp) : Hp := { backs H (H.lists.flatMap (·.pages)) with lists := [] }
theorem noLists_hp (y : Hx) (zs : List Zc) (H : Hp) (h : (y.withZ zs).hp = H) : (y.withZ zs).noLists.hp = { H with lists := [] } := by
 rw [← h]; rfl
theorem pDrain_fr (w : World) (x : Hx) (hx : x.At w) (hM : HMay x.hp) (hcb : CanBacks x.hp (x.hp.lists.flatMap (·.pages))) :
    Calls Tryz.prog 18 #[.agg #[.slice x.zo x.zn x.zc, .slice x.mo x.mn x.mc, .int .i64 x.cpus, .slice x.lo x.ln x.lc, .slice x.vo x.vn x.vc]] w fun e w' => (∃ y : Hx, e = .returned (.tuple #[.agg #[.slice y.zo y.zn y.zc, .slice y.mo y.mn y.mc, .int .i64 y.cpus, .slice y.lo y.ln y.lc, .slice y.vo y.vn y.vc], .int .i64 0]) ∧ y.hp = drainH x.hp ∧ y.At w' ∧ FreshH w.heap.size y) ∧ Below w.heap.size w w' := by
 have HC : ∀ W, x.At W → Calls Tryz.prog 12 #[.agg #[.slice x.zo x.zn x.zc, .slice x.mo x.mn x.mc, .int .i64 x.cpus, .slice x.lo x.ln x.lc, .slice x.vo x.vn x.vc]] W fun e w' => e = .returned (.int .i64 0) ∧ Below W.heap.size W w' := fun W hW => (pCheck_any W x hW).mono fun e w1 h1 => by
  obtain ⟨⟨c, rfl, hc⟩, hb⟩ := h1
  rcases hc with ⟨rfl, _⟩ | ⟨_, hn⟩
  ·exact ⟨rfl, hb⟩
  exact absurd hM hn
 have B0 := Below.refl w.heap.size w
 refine sx_enter (args := [_]) 21 Tryz.func18 rfl rfl rfl ?_
 refine vS (vR ?_); intro A f
 refine l_box f rfl rfl rfl rfl rfl ?_; clear f A; intro b1 W2 eb1 hb3 rb1 A f; dsimp only [Value.cells] at rb1
 have z_B0_b1 := B0.size; rw [eb1] at z_B0_b1
 replace B0 := Below.next B0 hb3
 refine l_alloc (z := .agg #[.slice none 0 0, .slice none 0 0, .int .i64 0, .slice none 0 0, .slice none 0 0]) f rfl rfl rfl rfl (by kernel_rfl) ?_; clear f A; intro b4 W5 eb4 hb6 rb4 A f; dsimp only [Value.cells] at rb4
 have o_b1_b4 : b1 < b4 := by have := row_lt rb1; omega
 have z_B0_b4 := B0.size; rw [eb4] at z_B0_b4
 replace B0 := Below.next B0 hb6; replace rb1 := row_next rb1 hb6
 revert A; refine vla (h:=vW (vS (vS (vR (vl5 (rowq rb1) (h:=vlc (HC _ (hx.below B0)) (h:=?_))))))); intro W8 hb7; replace B0 := Below.next B0 hb7; replace rb1 := row_next rb1 hb7; replace rb4 := row_next rb4 hb7
 refine vla (h:=vW (vS (vR (vlm (h:=vlb (y_neq rfl rfl rfl) (h:=?_) (g:=?_))))))
 ·intro c9; exfalso; omega
 intro c9
 refine vW (vD (h:=vK (vT (vS (vR (vl5 (rowq rb1) (h:=?_)))))))
 have ly_b1 := row_lt rb1
 have ly_b4 := row_lt rb4
 have hyB := B0.size
 intro A f
 refine l_call f rfl rfl rfl (IsCall.mk' (cap := []) rfl rfl rfl) (pl rfl) (pCopy_own _ x (hx.below B0)) ?_
 clear f A
 rintro _ W10 ⟨⟨gz, gl, gv, y, rfl, ey, O⟩, hb11⟩
 refine ⟨_, rfl, ?_⟩
 intro A f
 replace B0 := Below.next B0 hb11; replace rb1 := row_next rb1 hb11; replace rb4 := row_next rb4 hb11
 have aw_b1 : Away b1 y := O.away (by omega)
 have aw_b4 : Away b4 y := O.away (by omega)
 have hfr : ∀ b, b < w.heap.size → Away b y := fun b hb => O.away (by omega)
 have HY := O.hz
 have hgB := O.gzB
 have hgl := HY.lt (by have h1 := HY.at_.zones.len; have h2 : y.zs.length = y.hp.zones.length := (by show _ = (y.zs.map _).length; rw [List.length_map]); rw [ey] at h2; have := hM.zs.n; omega)
 clear O
 have HYo := HY.at_
 refine l_as (z := .agg #[.slice none 0 0, .slice none 0 0, .int .i64 0, .slice none 0 0, .slice none 0 0]) f rfl rfl rfl rfl (by kernel_rfl) rfl rfl (fun _ => rfl) (fun _ => rfl) rfl (by intro u hu; simp [Value.cells] at hu; rcases hu with rfl | rfl | rfl | rfl | rfl <;> rfl) ?_; clear f A; intro b12 W13 eb12 hb14 rb12 A f
 dsimp only [Value.cells] at rb12
 have hpb12 := hb14
 have o_b1_b12 : b1 < b12 := by have := row_lt rb1; omega
 have o_b4_b12 : b4 < b12 := by have := row_lt rb4; omega
 have z_B0_b12 := B0.size; rw [eb12] at z_B0_b12
 replace B0 := Below.next B0 hb14; replace HY := HY.below hb14; replace rb1 := row_next rb1 hb14; replace rb4 := row_next rb4 hb14
 have awx : Away b12 y := away_old HYo (by omega)
 revert A; refine vW (vS (vS (vR ?_))); intro A f
 refine l_call f rfl rfl rfl (IsCall.mk' (cap := []) rfl rfl rfl) (pl rfl) (pdrain_ok _ _ gz b12 y rb12 HY (by omega) awx (by rw [ey]; exact hcb)) ?_
 clear f A
 have hlW := B0.size
 have lw_b1 := row_lt rb1
 have lw_b4 := row_lt rb4
 have lw_b12 := row_lt rb12
 rintro _ W15 ⟨rfl, zs, hzs, HY2, rd, hu, haw⟩
 refine ⟨_, rfl, ?_⟩
 intro A f
 replace B0 := B0.trans (hu.below (by omega) (by omega) B0.size)
 replace rb1 := hu.row rb1 (by omega) (by omega)
 replace rb4 := hu.row rb4 (by omega) (by omega)
 replace aw_b1 := haw _ (by omega) aw_b1
 replace aw_b4 := haw _ (by omega) aw_b4
 replace hfr := fun b (hb : b < w.heap.size) => haw b (by omega) (hfr b hb)
 clear rb12
 have rb12 := rd
 revert A; refine vla (h:=vW (vS (vR (vlm (h:=vlb (y_neq rfl rfl rfl) (h:=?_) (g:=?_))))))
 ·intro c16; exfalso; omega
 intro c16
 refine vW (vD (h:=vK (vT (vS (vR (vl5 (rowq rb12) (h:=?_))))))); intro A f
 refine vls f rb4 ?_
 clear rb4; intro W17 hb18 rb4; dsimp only [setL, over, Value.cells] at rb4; replace B0 := Below.thenBut B0 hb18 (by omega); replace rb1 := But.row hb18 rb1 (by omega); replace rb12 := But.row hb18 rb12 (by omega); replace HY2 := HY2.but hb18 (by omega) (aw_b4).noLists
 revert A; refine vla (h:=vW (vE ?_)); intro A f
 refine x_retc1 f rfl rfl rfl (ag rfl) rb4 rfl ?_
 exact ⟨⟨(y.withZ zs).noLists, rfl, by rw [noLists_hp y zs _ hzs, ey]; rfl, HY2.at_, fun b hb => ⟨(hfr b hb).noLists, fun a ha => by rw [HY2.ez] at ha; cases ha; dsimp only; omega⟩⟩, B0⟩
end Go.Proofs.YtjohdbiipeedkaaGreatDoor
namespace Go.Proofs.YtjohdbiipeedkaaGreatDoor.Kit
open Go Go.RowKit
variable {P : Program} {C : World → Prop} {L : List (Nat × Value)} {o : Oper} {x y : Operand} {t u : TypeId} {a b : Int}
theorem y_max (ho : o.op = .call ⟨.builtin .max, #[x, y], #[t, u]⟩) (hx : ev L x = some (.int .i64 a)) (hy : ev L y = some (.int .i64 b)) : YC P C L o (.int .i64 (max a b)) := by
 intro ρ hρ wx _
 simp [execOp, ho, hρ _ _ hx, hρ _ _ hy, resolve, builtin, Builtin.max_, Builtin.max2, go_sem]
 split <;> omega
theorem y_min (ho : o.op = .call ⟨.builtin .min, #[x, y], #[t, u]⟩) (hx : ev L x = some (.int .i64 a)) (hy : ev L y = some (.int .i64 b)) : YC P C L o (.int .i64 (min a b)) := by
 intro ρ hρ wx _
 simp [execOp, ho, hρ _ _ hx, hρ _ _ hy, resolve, builtin, Builtin.min_, Builtin.min2, go_sem]
 split <;> omega
end Go.Proofs.YtjohdbiipeedkaaGreatDoor.Kit
namespace Go.Proofs.YtjohdbiipeedkaaGreatDoor
open Go Go.RowKit Go.Proofs.YtjohdbiipeedkaaGreatDoor.Kit
theorem zGive_do (w : World) (fo : Option Addr) (fn fc : Nat) (to_ : Option Addr) (tn tc : Nat) (z : Zn) (a s : Int) (h : ZnAt w fo fn to_ tn z) (hM : ZMay z) (hr : giveOk z a s) (G : Option Zn) (hG : giveK s.toNat z a = G) :
    Calls Tryz.prog 77 #[.agg #[.int .i64 z.f, .int .i64 z.t, .slice fo fn fc, .slice to_ tn tc], .int .i64 a, .int .i64 s] w fun e w' => ((∃ Z, G = some Z ∧ RetZone w.heap.size w' Z e) ∨ (G = none ∧ RetNone 5 e)) ∧ Below w.heap.size w w' := by
 have I0 := cbI_first w fo fn fc to_ tn tc z h
 have c0 := I0.box.c0
 have c1 := I0.box.c1
 have c2 := I0.box.c2
 have c3 := I0.box.c3
 obtain ⟨n1, n2, n3, n4, n5⟩ := hM.new
 obtain ⟨r1, r2, r3, r4⟩ := hr
 obtain ⟨S, rfl⟩ : ∃ S : Nat, s = S := ⟨s.toNat, by omega⟩
 have htr := h.types.reach
 have HG : Hid (giveK S z a = G) := by show _ = _; rw [← hG]; rfl
 have g1 : ¬ ((S : Int) < 0) := by omega
 have g2 : ¬ a < z.f := by omega
 have g3 : ¬ z.t < a := by omega
 have g4 : ¬ z.t - a < (S : Int) := by omega
 clear h hG
 go_enter Tryz.func77, Tryz.ntmps77
 go_wp2_with fail
 go_at_call 49
 refine (zCheck_ok _ fo fn fc to_ tn tc z I0.zn hM).mono ?_
 rintro e w1 ⟨rfl, hb⟩
 have I1 := I0.step hb
 clear I0 hb c0 c1 c2 c3
 have c0 := I1.box.c0
 have c1 := I1.box.c1
 have c2 := I1.box.c2
 have c3 := I1.box.c3
 go_wp2_with fail
 go_at_call 60
 refine (zCopy_own _ fo fn fc to_ tn tc z I1.zn).mono ?_
 rintro e w3 ⟨g, k, rfl, o1, o2, hgk, hb3⟩
 have I3 := I1.step hb3
 have Z4 := zo_new o1 o2 hgk
 have hbx := below_box w3 (.cells #[.int .i64 z.f, .int .i64 z.t, .slice (some ⟨g, 0, none⟩) fn fn, .slice (some ⟨k, 0, none⟩) tn tn] 54)
 have I4 := I3.step hbx
 have hs1 := I1.size
 have hs3 := I3.size
 obtain ⟨W4, hW4⟩ : ∃ W4, w3.alloc (.cells #[.int .i64 z.f, .int .i64 z.t, .slice (some ⟨g, 0, none⟩) fn fn, .slice (some ⟨k, 0, none⟩) tn tn] 54) = W4 := ⟨_, rfl⟩
 rw [hW4] at I4 Z4
 have HW4 : Hid _ := hW4
 clear I1 I3 hb3 c0 c1 c2 c3 o1 o2 hbx hW4 g1 g2 g3 g4
 go_wp2_with (rw [HW4.out])
 clear HW4
 go_loopw [44] (fun iv wr => ∃ (i : Nat) (zi : Zn) (g n cap : Nat), i ≤ S ∧ iv = .int .i64 i ∧ Hid (giveK (S - i) zi (a + i) = G) ∧ ZMay zi ∧ zi.f = z.f ∧ zi.t = z.t ∧ Zo wr w1.heap.size w3.heap.size g n cap k tn tn zi ∧ Res4 wr (w.heap.size + 1) ∧ Below w.heap.size w wr ∧ w.heap.size + 2 ≤ wr.heap.size) (fun iv _ => S - (intOf iv).toNat)
 case atStart => exact ⟨0, z, g, fn, fn, Nat.zero_le _, rfl, by simpa using HG, hM, rfl, rfl, Z4, I4.res, I4.b, I4.size⟩
 case round =>
  obtain ⟨i, zi, g, n, cap, hi, rfl, hGi, hMi, hf, ht, Z, R, hB, hs⟩ := hrel
  clear Z4 I4 HG hM hgk
  have hgb := (Row.of Z.own).1
  by_cases hlt : i < S
  ·have hA : blkIn zi.f zi.t (a + i) 0 := page_in (by omega) (by omega)
   obtain ⟨m, hm⟩ : ∃ m, S - i = m + 1 := ⟨S - i - 1, by omega⟩
   by_cases hv : ovlP zi.free (a + i) 0
   ·have HP := put_twice wr w1.heap.size w3.heap.size g n cap k tn tn zi (a + i) 0 Z hMi hA hv
    have HN : Hid (G = none) := by show _ = _; rw [← hGi.out, hm]; exact give_none hv
    clear hGi hMi hv hA
    go_wp2_with fail
    go_at_call 98
    refine HP.mono ?_
    rintro e w5 ⟨rfl, hb5⟩
    have R1 := R.below hb5
    have hB5 := hB.trans (hb5.mono hB.size)
    have hs5 := hb5.size
    obtain ⟨⟨x0, d0⟩, ⟨x1, d1⟩, ⟨x2, d2⟩, ⟨x3, d3⟩, z0, z1, z2, z3⟩ := id R1
    clear HP Z R hb5 hB
    go_wp2
    obtain ⟨k0, k1, k2, k3⟩ := res4 R1 (.int .i64 0) (.int .i64 0) (.slice none 0 0) (.slice none 0 0)
    have hbt := but4 w5 (w.heap.size + 1) (.int .i64 0) (.int .i64 0) (.slice none 0 0) (.slice none 0 0)
    exact bodyPost_ret (v := .tuple #[.agg #[.int .i64 0, .int .i64 0, .slice none 0 0, .slice none 0 0], .int .i64 5]) (by simp [results, Tryz.results77, go_sem, k0, k1, k2, k3]) rfl ⟨.inr ⟨HN.out, rfl⟩, hB5.trans (hbt.below (by omega) (by omega))⟩
   have HP := put_ok wr w1.heap.size w3.heap.size g n cap k tn tn zi (a + i) 0 Z hMi hA hv
   have HN : Hid (giveK (S - (i + 1)) (backZ zi (a + i) 0) (a + ((i + 1 : Nat) : Int)) = G) := by
    show _ = _
    rw [← hGi.out, hm, give_some hv, show S - (i + 1) = m by omega, show a + ((i + 1 : Nat) : Int) = a + i + 1 by omega]
   have hM2 := backZ_may hMi hA hv
   have hf2 : (backZ zi (a + i) 0).f = z.f := hf
   have ht2 : (backZ zi (a + i) 0).t = z.t := ht
   obtain ⟨Y, hY⟩ : ∃ Y, backZ zi (a + i) 0 = Y := ⟨_, rfl⟩
   rw [hY] at HP HN hM2 hf2 ht2
   have hzl := Z.box.lt
   clear hGi hMi hv hA hY Z
   go_wp2_with fail
   go_at_call 98
   refine HP.mono ?_
   rintro e w5 ⟨rfl, g', n', cap', Z5, hg', hU⟩
   have R5 := hU.res R (by omega) (by omega)
   have hB5 : Below w.heap.size w w5 := hB.trans (hU.below (by omega) (by omega) (by omega))
   have hs5 := Nat.le_trans hs hU.size
   clear HP R hB hU
   go_wp2
   go_roundw
   case rel => exact ⟨i + 1, Y, g', n', cap', by omega, by go_num, HN, hM2, hf2, ht2, Z5, R5, hB5, hs5⟩
   case measure => simp [intOf]; omega
  have HN : Hid (G = some zi) := by
   show _ = _
   have h0 : S - i = 0 := by omega
   rw [← hGi.out, h0]
   rfl
  have hbl := may_len hMi
  obtain ⟨⟨x0, d0⟩, ⟨x1, d1⟩, ⟨x2, d2⟩, ⟨x3, d3⟩, z0, z1, z2, z3⟩ := id R
  have y0 := Z.box.c0
  have y1 := Z.box.c1
  have y2 := Z.box.c2
  have y3 := Z.box.c3
  have hkb := (Row.of Z.typ).1
  have B7 := blks_own Z.own (by have := bowns_len Z.own; omega)
  have N7 := nums_of_owns Z.typ htr
  clear hGi hMi Z hf ht
  go_wp2
  obtain ⟨k0, k1, k2, k3⟩ := res4 R (.int .i64 zi.f) (.int .i64 zi.t) (.slice (some ⟨g, 0, none⟩) n cap) (.slice (some ⟨k, 0, none⟩) tn tn)
  have hbt := but4 wr (w.heap.size + 1) (.int .i64 zi.f) (.int .i64 zi.t) (.slice (some ⟨g, 0, none⟩) n cap) (.slice (some ⟨k, 0, none⟩) tn tn)
  exact bodyPost_ret (v := .tuple #[.agg #[.int .i64 zi.f, .int .i64 zi.t, .slice (some ⟨g, 0, none⟩) n cap, .slice (some ⟨k, 0, none⟩) tn tn], .int .i64 0]) (by simp [results, Tryz.results77, go_sem, k0, k1, k2, k3]) rfl ⟨.inl ⟨zi, HN.out, _, _, _, _, _, _, rfl, hbt.zn ⟨B7, N7⟩ (fun a ha => by cases ha; dsimp only; omega) (fun a ha => by cases ha; dsimp only; omega), fun a ha => by cases ha; dsimp only; omega, fun a ha => by cases ha; dsimp only; omega⟩, hB.trans (hbt.below (by omega) (by omega))⟩
theorem rep_set (k N : Nat) (h : k < N) : (List.replicate k (1 : Int) ++ List.replicate (N - k) 0).set k 1 = List.replicate (k + 1) 1 ++ List.replicate (N - (k + 1)) 0 := by
 obtain ⟨m, hm⟩ : ∃ m, N - k = m + 1 := ⟨N - k - 1, by omega⟩
 have e : N - (k + 1) = m := by omega
 rw [hm, e, List.set_append_right _ _ (by simp), List.length_replicate, Nat.sub_self, List.replicate_succ, List.set_cons_zero, List.replicate_succ', List.append_assoc]
 rfl
theorem zNew_nat (w : World) (f t : Nat) (h1 : f ≤ t) (h2 : t ≤ 256) (h3 : f % 16 = 0) (h4 : t % 16 = 0) :
    Calls Tryz.prog 76 #[.int .i64 f, .int .i64 t] w fun e w' => RetZone w.heap.size w' ⟨f, t, [], List.replicate ((t - f) / 8) 1⟩ e ∧ Below w.heap.size w w' := by
 have HB : Hid (newB f t = true) := newB_t ⟨by omega, by omega, by omega, by omega, by omega⟩
 obtain ⟨i0, hi, hz0, hz1, hz2⟩ := info_parts info_int
 have hb1 := below_box w (.cells #[.int .i64 0, .int .i64 0, .slice none 0 0, .slice none 0 0] 54)
 have R0 : Res4 (w.alloc (.cells #[.int .i64 0, .int .i64 0, .slice none 0 0, .slice none 0 0] 54)) w.heap.size := (zbox_new w _ _ _ _ _).res
 have hs1 : (w.alloc (.cells #[.int .i64 0, .int .i64 0, .slice none 0 0, .slice none 0 0] 54)).heap.size = w.heap.size + 1 := by simp
 obtain ⟨W0, hW0⟩ : ∃ W0, w.alloc (.cells #[.int .i64 0, .int .i64 0, .slice none 0 0, .slice none 0 0] 54) = W0 := ⟨_, rfl⟩
 rw [hW0] at hb1 R0 hs1
 obtain ⟨N, hN⟩ : ∃ N, N = (t - f) / 8 := ⟨_, rfl⟩
 have hN3 : N ≤ 32 := by omega
 obtain ⟨D, hD⟩ : ∃ D : Nat, (t : Int) - f = (D : Int) := ⟨t - f, by omega⟩
 have hq : (D : Int) / 8 = (N : Int) := by omega
 rw [← hN]
 have HW0 : Hid _ := hW0
 clear hW0 hN h3 h4
 go_enter Tryz.func76, Tryz.ntmps76
 go_wp2_with fail
 go_at_call 70
 refine (bounds_any _ f t).mono ?_
 rintro e w' ⟨rfl, rfl⟩
 rw [HB.out, HW0.out]
 have hml : N ≤ maxLen := by unfold maxLen; omega
 have hby : i0.bytes * N ≤ 281474976710656 := by rw [hz2]; omega
 go_wp2_with (at_make; refine wpList_make_full _ rfl (.tmp 16) (.tmp 16) 30 rfl W0.heap.size 3 i0 (.int .i64 0) 1 Tryz.underlying30 hi hz0 hz1 .i64 .i64 _ _ N rfl rfl (by go_num) (by go_num) hby hml (Nat.le_refl _) ?_; rw [made_vals]; intro w1 hown hg1; have hbw : Below W0.heap.size W0 w1 := (Below.refl _ _).grown hg1 (Nat.le_refl _) (by simp); clear hg1)
 have R1 := R0.below hbw
 have hB1 := hb1.trans (hbw.mono hb1.size)
 have hs2 : w.heap.size + 1 ≤ w1.heap.size := by have := hbw.size; omega
 have hown1 : w1.ownsRow (w.heap.size + 1) 3 1 (.slice (some ⟨w.heap.size + 1, 0, none⟩) N N) N (vals (List.replicate N 0)) := by rw [hs1] at hown; exact hown
 clear hown hbw R0 hb1 HW0 HB hD hq
 go_loopw [20] (fun iv wr => ∃ k : Nat, k ≤ N ∧ iv = .int .i64 k ∧ wr.ownsRow (w.heap.size + 1) 3 1 (.slice (some ⟨w.heap.size + 1, 0, none⟩) N N) N (vals (List.replicate k 1 ++ List.replicate (N - k) 0)) ∧ Res4 wr w.heap.size ∧ Below w.heap.size w wr) (fun iv _ => N - (intOf iv).toNat)
 case atStart => exact ⟨0, Nat.zero_le _, rfl, by simpa using hown1, R1, hB1⟩
 case round =>
  obtain ⟨k, hk, rfl, hown, R, hb⟩ := hrel
  clear R1 hB1 hown1
  by_cases hlt : k < N
  ·obtain ⟨c1, c2, hown'⟩ := owns_store hown k hlt 1
   have e1 : (List.replicate k (1 : Int) ++ List.replicate (N - k) 0).set k 1 = List.replicate (k + 1) 1 ++ List.replicate (N - (k + 1)) 0 := rep_set k N hlt
   rw [e1] at hown'
   have hbt : But (w.heap.size + 1) wr (wr.setCell ⟨w.heap.size + 1, k, none⟩ (.int .i64 1)) := (But.refl _ _).setCell _
   have R' := R.but hbt (by omega)
   have hs : w.heap.size + 1 < wr.heap.size := (hown.lt _ rfl).2
   have hb' := hb.trans (hbt.below (B := w.heap.size) (by omega) (by omega))
   clear hown R hb hbt e1
   go_wp2
   go_roundw
   case rel => exact ⟨k + 1, by omega, by go_num, hown', R', hb'⟩
   case measure => simp [intOf]; omega
  obtain rfl : k = N := by omega
  have hown' : wr.ownsRow (w.heap.size + 1) 3 1 (.slice (some ⟨w.heap.size + 1, 0, none⟩) k k) k (vals (List.replicate k 1)) := by simpa using hown
  obtain ⟨⟨x0, d0⟩, ⟨x1, d1⟩, ⟨x2, d2⟩, ⟨x3, d3⟩, z0, z1, z2, z3⟩ := id R
  clear hown
  go_wp2
  obtain ⟨k0, k1, k2, k3⟩ := res4 R (.int .i64 f) (.int .i64 t) (.slice none 0 0) (.slice (some ⟨w.heap.size + 1, 0, none⟩) k k)
  have hbt := but4 wr w.heap.size (.int .i64 f) (.int .i64 t) (.slice none 0 0) (.slice (some ⟨w.heap.size + 1, 0, none⟩) k k)
  refine bodyPost_ret (v := .tuple #[.agg #[.int .i64 f, .int .i64 t, .slice none 0 0, .slice (some ⟨w.heap.size + 1, 0, none⟩) k k], .int .i64 0]) (by simp [results, Tryz.results76, go_sem, k0, k1, k2, k3]) rfl ⟨⟨none, 0, 0, some ⟨w.heap.size + 1, 0, none⟩, k, k, rfl, ⟨Blks.nil _, hbt.nums (nums_of_owns hown' (by omega)) (fun a ha => by cases ha; simp)⟩, fresh_none _, fun a ha => by cases ha; simp⟩, hb.trans (hbt.below (Nat.le_refl _) hb.size)⟩
theorem zNew_ok (w : World) (f t : Int) (h : newOk f t) :
    Calls Tryz.prog 76 #[.int .i64 f, .int .i64 t] w fun e w' => RetZone w.heap.size w' (newZ f t) e ∧ Below w.heap.size w w' := by
 obtain ⟨h1, h2, h3, h4, h5⟩ := h
 obtain ⟨F, rfl⟩ : ∃ F : Nat, f = F := ⟨f.toNat, by omega⟩
 obtain ⟨T, rfl⟩ : ∃ T : Nat, t = T := ⟨t.toNat, by omega⟩
 have e : newZ (F : Int) T = ⟨F, T, [], List.replicate ((T - F) / 8) 1⟩ := by
  unfold newZ newTypes
  have : (((T : Int) - F) / 8).toNat = (T - F) / 8 := by omega
  rw [this]
 rw [e]
 exact zNew_nat w F T (by omega) (by omega) (by omega) (by omega)
theorem checkRegion_ok (w : World) (f s : Int) (h : regOk (f, s)) :
    Calls Tryz.prog 97 #[.agg #[.int .i64 f, .int .i64 s]] w fun e w' => e = .returned (.int .i64 0) ∧ Below w.heap.size w w' := by
 obtain ⟨h1, h2, h3, h4, h5⟩ := h
 dsimp only at h1 h2 h3 h4 h5
 have e1 : ¬ s < 1 := by omega
 have e2 : ¬ f < 0 := by omega
 have e3 : ¬ 256 - s < f := by omega
 go_enter Tryz.func97, Tryz.ntmps97
 go_wp2
 go_ret
 exact ⟨rfl, below_box _ _⟩
theorem checkRegion_no (w : World) (f s : Int) (hs : s ≤ 9223372036854775807) (h : ¬ regOk (f, s)) :
    Calls Tryz.prog 97 #[.agg #[.int .i64 f, .int .i64 s]] w fun e w' => e = .returned (.int .i64 1) ∧ Below w.heap.size w w' := by
 unfold regOk at h
 dsimp only at h
 by_cases h1 : s < 1
 ·clear h
  go_enter Tryz.func97, Tryz.ntmps97
  go_wp2
  go_ret
  exact ⟨rfl, below_box _ _⟩
 by_cases h2 : f < 0
 ·clear h
  go_enter Tryz.func97, Tryz.ntmps97
  go_wp2
  go_ret
  exact ⟨rfl, below_box _ _⟩
 have h3 : 256 - s < f := by omega
 clear h
 go_enter Tryz.func97, Tryz.ntmps97
 go_wp2
 go_ret
 exact ⟨rfl, below_box _ _⟩
structure BeTo (l : List (Int × Int)) (k : Nat) (q : Int) : Prop where
 good : GoodTo l k
 lo : 0 ≤ q
 hi : q ≤ 257
 zero : k = 0 → q = 0
 succ : ∀ j, k = j + 1 → q = (l.getD j (0, 0)).1 + (l.getD j (0, 0)).2 + 1
theorem beTo_zero (l : List (Int × Int)) : BeTo l 0 0 := ⟨goodTo_zero l, by omega, by omega, fun _ => rfl, fun j h => by omega⟩
theorem beTo_succ {l : List (Int × Int)} {k : Nat} {q x y : Int} (h : BeTo l k q) (e : l.getD k (0, 0) = (x, y)) (h1 : regOk (x, y)) (h2 : q ≤ x) : BeTo l (k + 1) (x + y + 1) := by
 have h1' := h1
 obtain ⟨p1, p2, p3, p4, p5⟩ := h1'
 dsimp only at p1 p2 p3 p4 p5
 refine ⟨?_, by omega, by omega, fun g => by omega, fun j hj => ?_⟩
 ·cases k with
  | zero => exact goodTo_one (by rw [e]; exact h1)
  | succ j =>
   have hq := h.succ j rfl
   exact goodTo_succ h.good (by rw [e]; exact h1) (by rw [e]; dsimp only; omega)
 obtain rfl : j = k := by omega
 rw [e]
theorem beTo_gap {l : List (Int × Int)} {k : Nat} {q x y : Int} (h : BeTo l k q) (hk : k < l.length) (e : l.getD k (0, 0) = (x, y)) (h1 : 0 ≤ x) (h2 : x < q) : ¬ MayP l := by
 intro g
 cases k with
 | zero => have := h.zero rfl; omega
 | succ j =>
  have hq := h.succ j rfl
  have := g.gap j (by omega)
  rw [e] at this
  dsimp only at this
  omega
theorem top_of_may {l : List (Int × Int)} (h : MayP l) : TopL l := by
 intro r hr
 obtain ⟨i, hi, rfl⟩ := List.getElem_of_mem hr
 have := h.ok i hi
 rw [List.getD_eq_getElem?_getD, List.getElem?_eq_getElem hi] at this
 have := this.2.2.2.1
 simp only [Option.getD_some] at this
 omega
theorem mayBe_any (w : World) (ao : Option Addr) (n cap : Nat) (l : List (Int × Int)) (h : Regs w ao n l) (ht : TopL l) :
    Calls Tryz.prog 73 #[.slice ao n cap] w fun e w' => RetIff e (MayP l) ∧ Below w.heap.size w w' := by
 obtain ⟨hn, hr, hx⟩ := h
 by_cases h40 : (40 : Int) < n
 ·have HF : Hid (¬ MayP l) := fun h => by have := h.len; omega
  clear hx ht
  go_enter Tryz.func73, Tryz.ntmps73
  go_wp2
  go_ret
  exact ⟨⟨false, rfl, fun h => (by cases h), fun h => absurd h HF.out⟩, Below.refl _ _⟩
 go_enter Tryz.func73, Tryz.ntmps73
 go_wp2
 go_loopw [3, 11] (fun q i wr => ∃ (k : Nat) (z : Int), k ≤ n ∧ i = .int .i64 k ∧ q = .int .i64 z ∧ BeTo l k z ∧ Below w.heap.size w wr) (fun _ i _ => n - (intOf i).toNat)
 case atStart => exact ⟨0, 0, Nat.zero_le _, rfl, rfl, beTo_zero l, Below.refl _ _⟩
 case round =>
  obtain ⟨k, z, hk, rfl, rfl, hG, hb⟩ := hrel
  by_cases hlt : k < n
  ·have hxr := hx.below hb
   obtain ⟨b, o, x, y, rfl, c1, c2, hX⟩ := hxr.at k (by omega)
   have hty := ht.at k (by omega) hX.out
   have hz1 := hG.lo
   have hz2 := hG.hi
   clear hxr
   go_wp2_with fail
   go_at_call 97
   have hbx := below_box wr (.cells #[.int .i64 x, .int .i64 y] 47)
   have x0 : (wr.alloc (.cells #[.int .i64 x, .int .i64 y] 47)).cell? ⟨wr.heap.size, 0, none⟩ = some (.int .i64 x) := by go_simp
   have x1 : (wr.alloc (.cells #[.int .i64 x, .int .i64 y] 47)).cell? ⟨wr.heap.size, 1, none⟩ = some (.int .i64 y) := by go_simp
   by_cases hok : regOk (x, y)
   ·refine (checkRegion_ok _ x y hok).mono ?_
    rintro e w1 ⟨rfl, hb1⟩
    have hB1 := hb.trans ((hbx.mono hb.size).trans (hb1.mono (Nat.le_trans hb.size hbx.size)))
    replace x0 := keep x0 hb1
    replace x1 := keep x1 hb1
    by_cases hg : x < z
    ·have HF : Hid (¬ MayP l) := beTo_gap hG (by omega) hX.out hok.1 hg
     clear hx ht hG hok c1 c2 hb hbx hb1
     go_wp2
     go_ret
     exact ⟨⟨false, rfl, fun h => (by cases h), fun h => absurd h HF.out⟩, hB1⟩
    have HG' : BeTo l (k + 1) (x + y + 1) := beTo_succ hG hX.out hok (by omega)
    obtain ⟨p1, p2, p3, p4, p5⟩ := hok
    dsimp only at p1 p2 p3 p4 p5
    clear hx ht hG c1 c2 hb hbx hb1
    go_wp2
    go_roundw
    case rel => exact ⟨k + 1, x + y + 1, by omega, by go_num, by go_num, HG', hB1⟩
    case measure => simp [intOf]; omega
   refine (checkRegion_no _ x y hty hok).mono ?_
   rintro e w1 ⟨rfl, hb1⟩
   have hB1 := hb.trans ((hbx.mono hb.size).trans (hb1.mono (Nat.le_trans hb.size hbx.size)))
   have HF : Hid (¬ MayP l) := fun h => absurd (by have := h.ok k (by omega); rw [hX.out] at this; exact this) hok
   clear hx ht hG hok c1 c2 hb hbx hb1 x0 x1
   go_wp2
   go_ret
   exact ⟨⟨false, rfl, fun h => (by cases h), fun h => absurd h HF.out⟩, hB1⟩
  have HM : Hid (MayP l) := ⟨by omega, fun i hi => hG.good.1 i (by omega), fun i hi => hG.good.2 i (by omega)⟩
  clear hx ht
  go_wp2
  go_ret
  exact ⟨⟨true, rfl, fun _ => HM.out, fun _ => rfl⟩, hb⟩
theorem cCheck_ok (w : World) (mo : Option Addr) (mn mc : Nat) (M : List (Int × Int)) (ro : Option Addr) (rn rc : Nat) (R : List (Int × Int)) (hm : Regs w mo mn M) (hr : Regs w ro rn R) (h : MayP M ∧ MayP R) :
    Calls Tryz.prog 50 #[.agg #[.slice mo mn mc, .slice ro rn rc]] w fun e w' => e = .returned (.int .i64 0) ∧ Below w.heap.size w w' := by
 have hb0 := below_box w (.cells #[.slice mo mn mc, .slice ro rn rc] 25)
 have p1 : (w.alloc (.cells #[.slice mo mn mc, .slice ro rn rc] 25)).cell? ⟨w.heap.size, 1, none⟩ = some (.slice ro rn rc) := by go_simp
 obtain ⟨hM, hR⟩ := h
 have HM : Hid _ := hM
 have HR : Hid _ := hR
 clear hM hR
 go_enter Tryz.func50, Tryz.ntmps50
 go_wp2_with fail
 go_at_call 73
 refine (mayBe_any _ mo mn mc M (hm.below hb0) (top_of_may HM.out)).mono ?_
 rintro e w1 ⟨⟨r, rfl, h1⟩, hb1⟩
 obtain rfl : r = true := h1.2 HM.out
 clear h1
 have hB1 := hb0.trans (hb1.mono hb0.size)
 replace p1 := keep p1 hb1
 have r1 := hr.below hB1
 clear hm hr hb0 hb1
 go_wp2_with fail
 go_at_call 73
 refine (mayBe_any _ ro rn rc R r1 (top_of_may HR.out)).mono ?_
 rintro e w2 ⟨⟨r, rfl, h2⟩, hb2⟩
 obtain rfl : r = true := h2.2 HR.out
 clear h2
 go_wp2
 go_ret
 exact ⟨rfl, hB1.trans (hb2.mono hB1.size)⟩
theorem zGive_some (w : World) (foz : Option Addr) (fn fc : Nat) (to_ : Option Addr) (tn tc : Nat) (z : Zn) (a s : Int) (h : ZnAt w foz fn to_ tn z) (hM : ZMay z) (hr : giveOk z a s) {Y : Zn} (hG : giveK s.toNat z a = some Y) :
    Calls Tryz.prog 77 #[.agg #[.int .i64 z.f, .int .i64 z.t, .slice foz fn fc, .slice to_ tn tc], .int .i64 a, .int .i64 s] w fun e w' => RetZone w.heap.size w' Y e ∧ Below w.heap.size w w' := by
 refine (zGive_do w foz fn fc to_ tn tc z a s h hM hr _ hG).mono ?_
 rintro e w' ⟨⟨Z, e1, h1⟩ | ⟨e1, _⟩, hb⟩
 ·cases e1
  exact ⟨h1, hb⟩
 cases e1
theorem pNewZone_ok (w : World) (zf zt : Int) (ao : Option Addr) (n cap : Nat) (l : List (Int × Int)) (hR : Regs w ao n l) (hM : MayP l) (hn : newOk zf zt) :
    Calls Tryz.prog 53 #[.int .i64 zf, .int .i64 zt, .slice ao n cap] w fun e w' => (∃ Z foz fn fc to_ tn tc, e = .returned (.tuple #[.agg #[.int .i64 Z.f, .int .i64 Z.t, .slice foz fn fc, .slice to_ tn tc], .int .i64 0]) ∧ ZNew Z zf zt (inZ l zf zt) ∧ ZnAt w' foz fn to_ tn Z ∧ OffZ (fun q => w.heap.size ≤ q) foz to_ Z) ∧ Below w.heap.size w w' := by
 obtain ⟨Z0, hZ0, HZ0⟩ : ∃ Z0, ZNew Z0 zf zt (inZ (l.take 0) zf zt) ∧ ∀ W, Calls Tryz.prog 76 #[.int .i64 zf, .int .i64 zt] W fun e w' => RetZone W.heap.size w' Z0 e ∧ Below W.heap.size W w' :=
  ⟨newZ zf zt, (znew_zero hn).congr (fun p => by simp [inZ, inL]), fun W => zNew_ok W zf zt hn⟩
 have B0 := Below.refl w.heap.size w
 refine sx_enter (args := [_, _, _]) 59 Tryz.func53 rfl rfl rfl ?_
 refine vS (vR ?_); intro A f
 refine l_alloc (z := .agg #[.int .i64 0, .int .i64 0, .slice none 0 0, .slice none 0 0]) f rfl rfl rfl rfl (by kernel_rfl) ?_; clear f A; intro b1 W2 eb1 hb3 rb1 A f; dsimp only [Value.cells] at rb1
 have z_B0_b1 := B0.size; rw [eb1] at z_B0_b1
 replace B0 := Below.next B0 hb3
 revert A; refine vla (h:=vW (vS (vR (vlm (h:=vlm (h:=?_))))))
 have lz_b1 := row_lt rb1
 have lzB := B0.size
 intro A f
 refine l_call f rfl rfl rfl (IsCall.mk' (cap := []) rfl rfl rfl) (pl rfl) (HZ0 _) ?_
 clear f A
 rintro _ W4 ⟨⟨fo0, fn0, fc0, to0, tn0, tc0, rfl, hz, hf0, ht0⟩, hb5⟩
 refine ⟨_, rfl, ?_⟩
 intro A f
 replace B0 := Below.next B0 hb5; replace rb1 := row_next rb1 hb5
 revert A; refine vlm (h:=?_)
 have hzl := hz
 refine vle (h:=vle (h:=?_)); intro A f
 refine l_as (z := .agg #[.int .i64 0, .int .i64 0, .slice none 0 0, .slice none 0 0]) f rfl rfl rfl rfl (by kernel_rfl) rfl rfl (fun _ => rfl) (fun _ => rfl) rfl (by intro u hu; simp [Value.cells] at hu; rcases hu with rfl | rfl | rfl | rfl <;> rfl) ?_; clear f A; intro b6 W7 eb6 hb8 rb6 A f
 dsimp only [Value.cells] at rb6
 have hpb6 := hb8
 have o_b1_b6 : b1 < b6 := by have := row_lt rb1; omega
 have z_B0_b6 := B0.size; rw [eb6] at z_B0_b6
 replace B0 := Below.next B0 hb8; replace hz := hz.below hb8; replace rb1 := row_next rb1 hb8
 revert A; refine vla (h:=vW (vS (vS (vR ?_))))
 have hof : OffZ (fun q => w.heap.size ≤ q ∧ q ≠ b1 ∧ q ≠ b6) fo0 to0 Z0 := ⟨fun h a ha => by have h1 := hf0 a ha; have h2 := blks_lt hzl.free h a ha; omega, fun h a ha => by have h1 := ht0 a ha; have h2 := nums_lt hzl.types h a ha; omega⟩
 refine vlm (h:=vlb (y_neq rfl rfl rfl) (h:=?_) (g:=?_))
 ·intro c9; exfalso; omega
 intro c9
 refine vW (vD (h:=vK (vT (vS (vS (vR (vlm (h:=vlz (h:=vlm (h:=vW (vB ?_)))))))))))
 have hl := hR.len
 have hr := hR.reach
 intro A f
 refine x_loop (fun m A W => ∃ (k : Nat) (Z : Zn) (foz : Option Addr) (fn fc : Nat) (to_ : Option Addr) (tn tc : Nat), m = n - k ∧ k ≤ n ∧ Fr A 59 [(0, .int .i64 zf), (1, .int .i64 zt), (6, .pointer (some ⟨b1, 0, none⟩)), (8, .pointer (some ⟨b6, 0, none⟩)), (24, .slice ao n cap), (25, .int .i64 (n : Nat)), (26, .int .i64 (k : Nat))] ∧ Below w.heap.size w W ∧ ZNew Z zf zt (inZ (l.take k) zf zt) ∧ ZnAt W foz fn to_ tn Z ∧ OffZ (fun q => w.heap.size ≤ q ∧ q ≠ b1 ∧ q ≠ b6) foz to_ Z ∧ W.heap[b6]? = some (.cells #[.int .i64 Z.f, .int .i64 Z.t, .slice foz fn fc, .slice to_ tn tc] 54 (0, 0)) ∧ W.heap[b1]? = some (.cells #[.int .i64 0, .int .i64 0, .slice none 0 0, .slice none 0 0] 54 (0, 0))) (n0 := n) (⟨0, Z0, fo0, fn0, fc0, to0, tn0, tc0, rfl, Nat.zero_le _, f.sub ⟨rfl, rfl, rfl, rfl, rfl, rfl, rfl, trivial⟩, B0, hZ0, hz, hof, rb6, rb1⟩) ?_
 clear f A
 clear B0 hz hof rb1 rb6 hf0 ht0
 rintro m A W10 ⟨k, Z, foz, fn, fc, to_, tn, tc, hm, hk, f, B0, hZ, hz, hof, rb6, rb1⟩
 revert A; refine vS (vR (vlb (y_lss rfl rfl rfl) (h:=?_) (g:=?_)))
 ·intro c11
  refine vW (vS (vC (h:=vK (vT (vS (vB (vS (vR ?_))))))))
  obtain ⟨gr, xr, x, y, har, c0r, c1r, hXr⟩ := hR.at_.at k (by omega)
  replace c0r := St.of c0r; replace c1r := St.of c1r
  have hok := hM.ok k (by omega)
  intro A f
  rw [hXr.out] at hok
  unfold regOk at hok
  dsimp only at hok
  obtain ⟨s1, s2⟩ := znew_step hM hZ (by omega) hXr.out
  revert A; refine vlx (h:=vld (y_loadN (vs := [_, _]) rfl rfl (ag rfl) rfl ⟨(by first | assumption | exact St.q c0r B0 | exact St.q c1r B0), (by first | assumption | exact St.q c0r B0 | exact St.q c1r B0), trivial⟩) (h:=?_)); intro A f
  refine l_as (z := .agg #[.int .i64 0, .int .i64 0]) f rfl rfl rfl rfl (by kernel_rfl) rfl rfl (fun _ => rfl) (fun _ => rfl) rfl (by intro u hu; simp [Value.cells] at hu; rcases hu with rfl | rfl <;> rfl) ?_; clear f A; intro b12 W13 eb12 hb14 rb12 A f
  dsimp only [Value.cells] at rb12
  have hpb12 := hb14
  have o_b1_b12 : b1 < b12 := by have := row_lt rb1; omega
  have o_b6_b12 : b6 < b12 := by have := row_lt rb6; omega
  have z_B0_b12 := B0.size; rw [eb12] at z_B0_b12
  replace B0 := Below.next B0 hb14; replace hz := hz.below hb14; replace rb1 := row_next rb1 hb14; replace rb6 := row_next rb6 hb14
  revert A; refine vW (vS ?_); intro A f
  refine sx_quiet (by kernel_rfl) (by kernel_rfl) ?_
  revert A; refine vqf (h:=vq1 (rowq rb12) (h:=vqm (h:=vqd (y_max rfl rfl rfl) (h:=vqf (h:=vq1 (rowq rb12) (h:=vqf (h:=vq1 (rowq rb12) (h:=vqA (h:=vqm (h:=vqd (y_min rfl rfl rfl) (h:=vqa (h:=vqa (h:=vQ ?_))))))))))))); intro W16 hb15; replace B0 := Below.next B0 hb15; replace hz := hz.below hb15; replace rb1 := row_next rb1 hb15; replace rb6 := row_next rb6 hb15; replace rb12 := row_next rb12 hb15
  refine vT (vS (vS (vR (vlm (h:=vlm (h:=vlb (y_geq rfl rfl rfl) (h:=?_) (g:=?_)))))))
  ·intro c17
   refine vW (vC (h:=vX (vH (vI (vT (vR (vlA (h:=vlm (h:=vW ?_))))))))); intro A f
   exact ⟨n - (k + 1), by omega, k + 1, Z, foz, fn, fc, to_, tn, tc, rfl, by omega, f.sub ⟨rfl, rfl, rfl, rfl, rfl, rfl, rfl, trivial⟩, B0, s2 (by omega), hz, hof, rb6, rb1⟩
  intro c17
  refine vW (vD (h:=vK (vT (vS (vR ?_)))))
  obtain ⟨hg, Y, hY, hZ2⟩ := s1 (by omega)
  refine vl4 (rowq rb6) (h:=vlm (h:=vlm (h:=vlm (h:=vld (y_sub rfl rfl rfl rfl (by omega)) (h:=?_)))))
  have lz_b1 := row_lt rb1
  have lz_b6 := row_lt rb6
  have lz_b12 := row_lt rb12
  have lzB := B0.size
  intro A f
  refine l_call f rfl rfl rfl (IsCall.mk' (cap := []) rfl rfl rfl) (pl rfl) (zGive_some _ foz fn fc to_ tn tc Z _ _ hz hZ.may hg hY) ?_
  clear f A
  rintro _ W18 ⟨⟨fo2, fn2, fc2, to2, tn2, tc2, rfl, hz2, hf2, ht2⟩, hb19⟩
  refine ⟨_, rfl, ?_⟩
  intro A f
  replace B0 := Below.next B0 hb19; replace hz := hz.below hb19; replace rb1 := row_next rb1 hb19; replace rb6 := row_next rb6 hb19; replace rb12 := row_next rb12 hb19
  have hof2 : OffZ (fun q => w.heap.size ≤ q ∧ q ≠ b1 ∧ q ≠ b6) fo2 to2 Y := ⟨fun _ a ha => by have := hf2 a ha; omega, fun _ a ha => by have := ht2 a ha; omega⟩
  revert A; refine vlm (h:=vle (h:=vle (h:=?_))); intro A f
  refine vls f rb6 ?_
  clear rb6; intro W20 hb21 rb6; dsimp only [setL, over, Value.cells] at rb6; replace B0 := Below.thenBut B0 hb21 (by omega); replace rb1 := But.row hb21 rb1 (by omega); replace rb12 := But.row hb21 rb12 (by omega); replace hz2 := zn_but hz2 hb21 (fun h a ha => (hof2.f h a ha).2.2) (fun h a ha => (hof2.t h a ha).2.2)
  revert A; refine vla (h:=vW (vS (vR (vlm (h:=vlb (y_neq rfl rfl rfl) (h:=?_) (g:=?_))))))
  ·intro c22; exfalso; omega
  intro c22
  refine vW (vD (h:=vK (vU (vT (vR (vlA (h:=vlm (h:=vW ?_)))))))); intro A f
  exact ⟨n - (k + 1), by omega, k + 1, Y, fo2, fn2, fc2, to2, tn2, tc2, rfl, by omega, f.sub ⟨rfl, rfl, rfl, rfl, rfl, rfl, rfl, trivial⟩, B0, hZ2, hz2, hof2, rb6, rb1⟩
 intro c11
 refine vW (vS (vD (h:=vX (vH (vH (vI (vT (vS (vR (vl4 (rowq rb6) (h:=?_))))))))))); intro A f
 refine vls f rb1 ?_
 clear rb1; intro W23 hb24 rb1; dsimp only [setL, over, Value.cells] at rb1; replace B0 := Below.thenBut B0 hb24 (by omega); replace rb6 := But.row hb24 rb6 (by omega); replace hz := zn_but hz hb24 (fun h a ha => (hof.f h a ha).2.1) (fun h a ha => (hof.t h a ha).2.1)
 revert A; refine vla (h:=vW (vE ?_)); intro A f
 refine x_retc1 f rfl rfl rfl (ag rfl) rb1 rfl ?_
 have ek : k = n := by omega
 rw [ek, List.take_of_length_le (by omega)] at hZ
 exact ⟨⟨Z, foz, fn, fc, to_, tn, tc, rfl, hZ, hz, fun h a ha => (hof.f h a ha).1, fun h a ha => (hof.t h a ha).1⟩, B0⟩
theorem newX_fresh {B gz gm : Nat} {least cpus : Int} {z0 z1 : Zc} (h1 : B ≤ gz) (h2 : B ≤ gm) (o0 : OffZ (fun q => B ≤ q) z0.fo z0.to_ z0.z) (o1 : OffZ (fun q => B ≤ q) z1.fo z1.to_ z1.z) : FreshH B (newX z0 z1 gz gm least cpus) := by
 intro b hb
 refine ⟨⟨fun z hz h0 a ha => ?_, fun z hz h0 a ha => ?_, fun _ a ha => ?_, fun h0 => absurd h0 (Nat.lt_irrefl 0), fun l hl => (by cases hl), fun h0 => absurd h0 (Nat.lt_irrefl 0)⟩, fun a ha => ?_⟩
 ·have hz' : z ∈ [z0, z1] := hz
  simp only [List.mem_cons, List.not_mem_nil, or_false] at hz'
  rcases hz' with rfl | rfl
  ·have := o0.f h0 a ha; omega
  have := o1.f h0 a ha; omega
 ·have hz' : z ∈ [z0, z1] := hz
  simp only [List.mem_cons, List.not_mem_nil, or_false] at hz'
  rcases hz' with rfl | rfl
  ·have := o0.t h0 a ha; omega
  have := o1.t h0 a ha; omega
 ·have ha' : some (⟨gm, 0, none⟩ : Addr) = some a := ha
  cases ha'
  dsimp only
  omega
 have ha' : some (⟨gz, 0, none⟩ : Addr) = some a := ha
 cases ha'
 dsimp only
 omega
theorem pIsMin_c (w : World) (x : Int) : Calls Tryz.prog 54 #[.int .i64 x] w fun e w' => e = .returned (.bool (decide (0 ≤ x ∧ x ≤ 256))) ∧ Below w.heap.size w w' := c_same (pIsMin_any w x)
theorem pAreCpus_c (w : World) (x : Int) : Calls Tryz.prog 33 #[.int .i64 x] w fun e w' => e = .returned (.bool (decide (1 ≤ x ∧ x ≤ 4))) ∧ Below w.heap.size w w' := c_same (pAreCpus_any w x)
theorem pNew_fr (w : World) (split least cpus : Int) (ao : Option Addr) (n cap : Nat) (l : List (Int × Int)) (hR : Regs w ao n l) (hM : MayP l) (hn0 : newOk 0 split) :
    Calls Tryz.prog 29 #[.slice ao n cap, .int .i64 split, .int .i64 least, .int .i64 cpus] w fun e w' => ((¬ newGood least cpus ∧ e = .returned (.tuple #[.agg #[.slice none 0 0, .slice none 0 0, .int .i64 0, .slice none 0 0, .slice none 0 0], .int .i64 1])) ∨ (newGood least cpus ∧ ∃ y : Hx, e = .returned (.tuple #[.agg #[.slice y.zo y.zn y.zc, .slice y.mo y.mn y.mc, .int .i64 y.cpus, .slice y.lo y.ln y.lc, .slice y.vo y.vn y.vc], .int .i64 0]) ∧ NewH y.hp l split least cpus ∧ y.At w' ∧ FreshH w.heap.size y)) ∧ Below w.heap.size w w' := by
 have hn1 := newOk_high hn0
 have B0 := Below.refl w.heap.size w
 refine sx_enter (args := [_, _, _, _]) 58 Tryz.func29 rfl rfl rfl ?_
 refine vS (vR ?_); intro A f
 refine l_alloc (z := .agg #[.slice none 0 0, .slice none 0 0, .int .i64 0, .slice none 0 0, .slice none 0 0]) f rfl rfl rfl rfl (by kernel_rfl) ?_; clear f A; intro b1 W2 eb1 hb3 rb1 A f; dsimp only [Value.cells] at rb1
 have z_B0_b1 := B0.size; rw [eb1] at z_B0_b1
 replace B0 := Below.next B0 hb3
 revert A; refine vla (h:=vW (vS (vS (vR (vlm (h:=vld (y_build #[.slice ao n cap, .slice none 0 0] rfl rfl (by kernel_rfl)) (h:=vlc (cCheck_ok _ ao n cap l none 0 0 [] (hR.below B0) (regs_none _) ⟨hM, mayP_nil⟩) (h:=?_)))))))); intro W5 hb4; replace B0 := Below.next B0 hb4; replace rb1 := row_next rb1 hb4
 refine vla (h:=vW (vS (vR (vlm (h:=vlb (y_neq rfl rfl rfl) (h:=?_) (g:=?_))))))
 ·intro c6; exfalso; omega
 intro c6
 refine vW (vD (h:=vK (vT (vS (vR (vlm (h:=vlm (h:=?_))))))))
 have hb10 := B0.size
 have lz_b1 := row_lt rb1
 have lzB := B0.size
 intro A f
 refine l_call f rfl rfl rfl (IsCall.mk' (cap := []) rfl rfl rfl) (pl rfl) (pNewZone_ok _ 0 split ao n cap l (hR.below B0) hM hn0) ?_
 clear f A
 rintro _ W7 ⟨⟨Z0, foz0, fn0, fc0, to0, tn0, tc0, rfl, hZ0, hz0, ho0⟩, hb8⟩
 refine ⟨_, rfl, ?_⟩
 intro A f
 replace B0 := Below.next B0 hb8; replace rb1 := row_next rb1 hb8
 replace ho0 : OffZ (fun q => w.heap.size ≤ q ∧ q ≠ b1) foz0 to0 Z0 := ⟨fun h a ha => by have h1 := ho0.f h a ha; omega, fun h a ha => by have h1 := ho0.t h a ha; omega⟩
 revert A; refine vlm (h:=vle (h:=vle (h:=?_))); intro A f
 refine l_as (z := .agg #[.int .i64 0, .int .i64 0, .slice none 0 0, .slice none 0 0]) f rfl rfl rfl rfl (by kernel_rfl) rfl rfl (fun _ => rfl) (fun _ => rfl) rfl (by intro u hu; simp [Value.cells] at hu; rcases hu with rfl | rfl | rfl | rfl <;> rfl) ?_; clear f A; intro b9 W10 eb9 hb11 rb9 A f
 dsimp only [Value.cells] at rb9
 have hpb9 := hb11
 have o_b1_b9 : b1 < b9 := by have := row_lt rb1; omega
 have z_B0_b9 := B0.size; rw [eb9] at z_B0_b9
 replace B0 := Below.next B0 hb11; replace hz0 := hz0.below hb11; replace rb1 := row_next rb1 hb11
 revert A; refine vla (h:=vW (vS (vS (vR (vlm (h:=vlb (y_neq rfl rfl rfl) (h:=?_) (g:=?_)))))))
 ·intro c12; exfalso; omega
 intro c12
 refine vW (vD (h:=vK (vT (vS (vR (vlm (h:=vlm (h:=?_))))))))
 have hb11 := B0.size
 have lz_b1 := row_lt rb1
 have lz_b9 := row_lt rb9
 have lzB := B0.size
 intro A f
 refine l_call f rfl rfl rfl (IsCall.mk' (cap := []) rfl rfl rfl) (pl rfl) (pNewZone_ok _ split 256 ao n cap l (hR.below B0) hM hn1) ?_
 clear f A
 rintro _ W13 ⟨⟨Z1, foz1, fn1, fc1, to1, tn1, tc1, rfl, hZ1, hz1, ho1⟩, hb14⟩
 refine ⟨_, rfl, ?_⟩
 intro A f
 replace B0 := Below.next B0 hb14; replace hz0 := hz0.below hb14; replace rb1 := row_next rb1 hb14; replace rb9 := row_next rb9 hb14
 replace ho1 : OffZ (fun q => w.heap.size ≤ q ∧ q ≠ b1) foz1 to1 Z1 := ⟨fun h a ha => by have h1 := ho1.f h a ha; omega, fun h a ha => by have h1 := ho1.t h a ha; omega⟩
 revert A; refine vlm (h:=vle (h:=vle (h:=?_))); intro A f
 refine l_as (z := .agg #[.int .i64 0, .int .i64 0, .slice none 0 0, .slice none 0 0]) f rfl rfl rfl rfl (by kernel_rfl) rfl rfl (fun _ => rfl) (fun _ => rfl) rfl (by intro u hu; simp [Value.cells] at hu; rcases hu with rfl | rfl | rfl | rfl <;> rfl) ?_; clear f A; intro b15 W16 eb15 hb17 rb15 A f
 dsimp only [Value.cells] at rb15
 have hpb15 := hb17
 have o_b1_b15 : b1 < b15 := by have := row_lt rb1; omega
 have o_b9_b15 : b9 < b15 := by have := row_lt rb9; omega
 have z_B0_b15 := B0.size; rw [eb15] at z_B0_b15
 replace B0 := Below.next B0 hb17; replace hz0 := hz0.below hb17; replace hz1 := hz1.below hb17; replace rb1 := row_next rb1 hb17; replace rb9 := row_next rb9 hb17
 revert A; refine vla (h:=vW (vS (vS (vR (vlm (h:=vlb (y_neq rfl rfl rfl) (h:=?_) (g:=?_)))))))
 ·intro c18; exfalso; omega
 intro c18
 refine vW (vD (h:=vK (vT (vS (vS (vR (vlm (h:=?_)))))))); intro A f
 refine l_callif _ f rfl rfl rfl (IsCall.mk' (cap := []) rfl rfl rfl) (pl rfl) (pIsMin_c _ _) ?_ ?_
 ·clear f A; intro c19 W21 hb20 A f
  replace B0 := Below.next B0 hb20; replace hz0 := hz0.below hb20; replace hz1 := hz1.below hb20; replace rb1 := row_next rb1 hb20; replace rb9 := row_next rb9 hb20; replace rb15 := row_next rb15 hb20
  revert A; refine vln (h:=vlm (h:=vlm (h:=?_))); intro A f
  refine l_callif _ f rfl rfl rfl (IsCall.mk' (cap := []) rfl rfl rfl) (pl rfl) (pAreCpus_c _ _) ?_ ?_
  ·clear f A; intro c22 W24 hb23 A f
   replace B0 := Below.next B0 hb23; replace hz0 := hz0.below hb23; replace hz1 := hz1.below hb23; replace rb1 := row_next rb1 hb23; replace rb9 := row_next rb9 hb23; replace rb15 := row_next rb15 hb23
   revert A; refine vln (h:=vlp (h:=vW (vD (h:=vK (vT (vS (vR (vl4 (rowq rb9) (h:=vl4 (rowq rb15) (h:=?_))))))))))
   obtain ⟨gz, hgz⟩ : ∃ g, g = W24.heap.size := ⟨_, rfl⟩
   have lg_b1 := row_lt rb1
   have lg_b9 := row_lt rb9
   have lg_b15 := row_lt rb15
   have lg_w := B0.size
   intro A f
   refine l_opR (R := fun v W => v = .slice (some ⟨gz, 0, none⟩) 2 2 ∧ Below W24.heap.size W24 W ∧ W.heap[gz]? = some (.cells #[.int .i64 Z0.f, .int .i64 Z0.t, .slice foz0 fn0 fc0, .slice to0 tn0 tc0, .int .i64 Z1.f, .int .i64 Z1.t, .slice foz1 fn1 fc1, .slice to1 tn1 tc1] 54 (0, 0))) f rfl rfl rfl ⟨_, _, bs_exec f rfl rfl (bs_zone2 _ _ _ _ _ _ _ _ _), by rw [hgz], (Below.refl _ _).alloc (Nat.le_refl _) _, by rw [hgz]; show (Array.push _ _)[_]? = _; rw [Array.getElem?_push, if_pos rfl]⟩ ?_
   clear f A
   rintro _ W25 ⟨rfl, hb26, rgz⟩ A f
   replace B0 := Below.next B0 hb26; replace hz0 := hz0.below hb26; replace hz1 := hz1.below hb26; replace rb1 := row_next rb1 hb26; replace rb9 := row_next rb9 hb26; replace rb15 := row_next rb15 hb26
   revert A; refine vlm (h:=vlm (h:=?_))
   obtain ⟨gm, hgm⟩ : ∃ g, g = W25.heap.size := ⟨_, rfl⟩
   have lm_b1 := row_lt rb1
   have lm_b9 := row_lt rb9
   have lm_b15 := row_lt rb15
   have lm_gz := row_lt rgz
   intro A f
   refine l_opR (R := fun v W => v = .slice (some ⟨gm, 0, none⟩) 2 2 ∧ Below W25.heap.size W25 W ∧ W.heap[gm]? = some (.cells #[.int .i64 least, .int .i64 least] 3 (0, 0))) f rfl rfl rfl ⟨_, _, bs_exec f rfl rfl (bs_int2 _ _ _), by rw [hgm], (Below.refl _ _).alloc (Nat.le_refl _) _, by rw [hgm]; show (Array.push _ _)[_]? = _; rw [Array.getElem?_push, if_pos rfl]⟩ ?_
   clear f A
   rintro _ W27 ⟨rfl, hb28, rgm⟩ A f
   replace B0 := Below.next B0 hb28; replace hz0 := hz0.below hb28; replace hz1 := hz1.below hb28; replace rb1 := row_next rb1 hb28; replace rb9 := row_next rb9 hb28; replace rb15 := row_next rb15 hb28; replace rgz := row_next rgz hb28
   revert A; refine vlm (h:=vld (y_build #[.slice (some ⟨gz, 0, none⟩) 2 2, .slice (some ⟨gm, 0, none⟩) 2 2, .int .i64 cpus, .slice none 0 0, .slice none 0 0] rfl rfl (by kernel_rfl)) (h:=?_)); intro A f
   refine vls f rb1 ?_
   clear rb1; intro W29 hb30 rb1; dsimp only [setL, over, Value.cells] at rb1; replace B0 := Below.thenBut B0 hb30 (by omega); replace rb9 := But.row hb30 rb9 (by omega); replace rb15 := But.row hb30 rb15 (by omega); replace rgz := But.row hb30 rgz (by omega); replace rgm := But.row hb30 rgm (by omega); replace hz0 := zn_but hz0 hb30 (fun h a ha => (ho0.f h a ha).2) (fun h a ha => (ho0.t h a ha).2); replace hz1 := zn_but hz1 hb30 (fun h a ha => (ho1.f h a ha).2) (fun h a ha => (ho1.t h a ha).2)
   revert A; refine vla (h:=vW (vE ?_)); intro A f
   refine x_retc1 f rfl rfl rfl (ag rfl) rb1 rfl ?_
   exact ⟨.inr ⟨⟨c19, c22⟩, newX ⟨Z0, foz0, fn0, fc0, to0, tn0, tc0⟩ ⟨Z1, foz1, fn1, fc1, to1, tn1, tc1⟩ gz gm least cpus, rfl, ⟨Z0, Z1, hZ0, hZ1, rfl⟩, newX_at rgz rgm hz0 hz1, newX_fresh (by omega) (by omega) ⟨fun h a ha => (ho0.f h a ha).1, fun h a ha => (ho0.t h a ha).1⟩ ⟨fun h a ha => (ho1.f h a ha).1, fun h a ha => (ho1.t h a ha).1⟩⟩, B0⟩
  clear f A; intro c22 W24 hb23 A f
  replace B0 := Below.next B0 hb23; replace hz0 := hz0.below hb23; replace hz1 := hz1.below hb23; replace rb1 := row_next rb1 hb23; replace rb9 := row_next rb9 hb23; replace rb15 := row_next rb15 hb23
  revert A; refine vln (h:=vlp (h:=vW (vC (h:=vS (vR (vld (y_build #[.slice none 0 0, .slice none 0 0, .int .i64 0, .slice none 0 0, .slice none 0 0] rfl rfl (by kernel_rfl)) (h:=?_))))))); intro A f
  refine vls f rb1 ?_
  clear rb1; intro W31 hb32 rb1; dsimp only [setL, over, Value.cells] at rb1; replace B0 := Below.thenBut B0 hb32 (by omega); replace rb9 := But.row hb32 rb9 (by omega); replace rb15 := But.row hb32 rb15 (by omega); replace hz0 := zn_but hz0 hb32 (fun h a ha => (ho0.f h a ha).2) (fun h a ha => (ho0.t h a ha).2); replace hz1 := zn_but hz1 hb32 (fun h a ha => (ho1.f h a ha).2) (fun h a ha => (ho1.t h a ha).2)
  revert A; refine vla (h:=vW (vE (vF ?_))); intro A f
  refine x_retc1 f rfl rfl rfl (ag rfl) rb1 rfl ?_
  exact ⟨.inl ⟨fun h => c22 h.2, rfl⟩, B0⟩
 clear f A; intro c19 W21 hb20 A f
 replace B0 := Below.next B0 hb20; replace hz0 := hz0.below hb20; replace hz1 := hz1.below hb20; replace rb1 := row_next rb1 hb20; replace rb9 := row_next rb9 hb20; replace rb15 := row_next rb15 hb20
 revert A; refine vln (h:=vlm (h:=vlO 3 (h:=vlp (h:=vW (vC (h:=vS (vR (vld (y_build #[.slice none 0 0, .slice none 0 0, .int .i64 0, .slice none 0 0, .slice none 0 0] rfl rfl (by kernel_rfl)) (h:=?_))))))))); intro A f
 refine vls f rb1 ?_
 clear rb1; intro W33 hb34 rb1; dsimp only [setL, over, Value.cells] at rb1; replace B0 := Below.thenBut B0 hb34 (by omega); replace rb9 := But.row hb34 rb9 (by omega); replace rb15 := But.row hb34 rb15 (by omega); replace hz0 := zn_but hz0 hb34 (fun h a ha => (ho0.f h a ha).2) (fun h a ha => (ho0.t h a ha).2); replace hz1 := zn_but hz1 hb34 (fun h a ha => (ho1.f h a ha).2) (fun h a ha => (ho1.t h a ha).2)
 revert A; refine vla (h:=vW (vE (vF ?_))); intro A f
 refine x_retc1 f rfl rfl rfl (ag rfl) rb1 rfl ?_
 exact ⟨.inl ⟨fun h => c19 h.1, rfl⟩, B0⟩
theorem bset_any (w : World) (b : Nat) (h : Int → Bool) (f s : Nat) (v : Bool) (hm : MarksAt w b 94 h) (hfs : f + s ≤ 256) :
    Calls Tryz.prog 75 #[.pointer (some ⟨b, 0, none⟩), .agg #[.int .i64 f, .int .i64 s], .bool v] w fun e w' => e = .returned (.tuple #[]) ∧ MarksAt w' b 94 (setH f s v h) ∧ But b w w' := by
 have hb0 := below_box w (.cells #[.int .i64 f, .int .i64 s] 47)
 have x0 : (w.alloc (.cells #[.int .i64 f, .int .i64 s] 47)).cell? ⟨w.heap.size, 0, none⟩ = some (.int .i64 f) := by go_simp
 have x1 : (w.alloc (.cells #[.int .i64 f, .int .i64 s] 47)).cell? ⟨w.heap.size, 1, none⟩ = some (.int .i64 s) := by go_simp
 have hlt := hm.lt
 have hm0 := hm.below hb0
 have hB0 : But b w (w.alloc (.cells #[.int .i64 f, .int .i64 s] 47)) := .of_below hb0
 obtain ⟨W0, hW0⟩ : ∃ W0, w.alloc (.cells #[.int .i64 f, .int .i64 s] 47) = W0 := ⟨_, rfl⟩
 rw [hW0] at x0 x1 hm0 hB0
 clear hb0 hm
 go_enter Tryz.func75, Tryz.ntmps75
 go_wp2
 clear hW0
 go_loopw [9] (fun i wr => ∃ k : Nat, k ≤ s ∧ i = .int .i64 k ∧ MarksAt wr b 94 (setH f k v h) ∧ But b W0 wr) (fun i _ => s - (intOf i).toNat)
 case atStart => exact ⟨0, Nat.zero_le _, rfl, (show W0.heap[b]? = some (.cells (mk (setH (f : Int) (0 : Int) v h)) _ _) by rw [mk_set0]; exact hm0), But.refl _ _⟩
 case round =>
  obtain ⟨k, hk, rfl, hM, hB⟩ := hrel
  by_cases hk1 : k < s
  ·have c0 := hB.cell x0 (by omega)
   have c1 := hM.cell (f + k) (by omega)
   have c2 := hM.fz (f + k)
   have hM' := hM.set (by omega)
   have hB' := hB.setCell (o := f + k) (.bool v)
   clear hM hB hm0 hB0
   go_wp2
   go_region
   all_goals go_wp2
   all_goals go_roundw
   case rel => exact ⟨k + 1, by omega, by go_num, hM', ⟨hB'.os, hB'.tape, hB'.output, hB'.size, hB'.block⟩⟩
   case measure => simp [intOf]; omega
  have hk2 : k = s := by omega
  subst hk2
  clear hm0
  go_wp2
  go_end0
  exact ⟨rfl, hM, hB0.trans hB⟩
theorem zero_marks (w : World) : (zeroValue 94).run Tryz.prog w = .ok (.agg (mk fun _ => false)) w := by kernel_rfl
structure FillInv (w : World) (h : Int → Bool) (r c : Nat) (W : World) : Prop where
 size : c < W.heap.size
 lo : w.heap.size ≤ r
 lt : r < c
 b : Below w.heap.size w W
 res : MarksAt W r 94 (fun _ => false)
 m : MarksAt W c 94 h
theorem FillInv.step {w : World} {h : Int → Bool} {r c : Nat} {W W' : World} (I : FillInv w h r c W) (hb : Below W.heap.size W W') : FillInv w h r c W' :=
 ⟨Nat.lt_of_lt_of_le I.size hb.size, I.lo, I.lt, I.b.trans (hb.mono (by have := I.size; have := I.lo; have := I.lt; omega)), I.res.below hb, I.m.below hb⟩
theorem FillInv.fill {w : World} {h g : Int → Bool} {r c : Nat} {W W' : World} (I : FillInv w h r c W) (hb : But c W W') (hm : MarksAt W' c 94 g) : FillInv w g r c W' :=
 ⟨Nat.lt_of_lt_of_le I.size hb.size, I.lo, I.lt, I.b.trans (hb.below (by have := I.lo; have := I.lt; omega) (by have := I.size; have := I.lo; have := I.lt; omega)), I.res.but hb (by have := I.lt; omega), hm⟩
theorem reg_nat {x y : Int} (h : regOk (x, y)) : ∃ f s : Nat, x = f ∧ y = s ∧ f + s ≤ 256 := by
 obtain ⟨h1, h2, h3, h4, h5⟩ := h
 dsimp only at h1 h2 h3 h4 h5
 exact ⟨x.toNat, y.toNat, by omega, by omega, by omega⟩
theorem bmark_any (w : World) (ao : Option Addr) (n cap : Nat) (l : List (Int × Int)) (hr : Regs w ao n l) (hM : MayP l) :
    Calls Tryz.prog 74 #[.slice ao n cap] w fun e w' => e = .returned (.agg (mk (inL l))) ∧ Below w.heap.size w w' := by
 have hz := zero_marks
 obtain ⟨Z, hZ⟩ : ∃ Z, mk (fun _ => false) = Z := ⟨_, rfl⟩
 rw [hZ] at hz
 go_enter Tryz.func74, Tryz.ntmps74
 go_wp2
 have I0 : FillInv w (markK l true (fun _ => false) 0) w.heap.size (w.heap.size + 1) ((w.alloc (.cells Z 94)).alloc (.cells Z 94)) := by
  refine ⟨by simp, Nat.le_refl _, by omega, ((Below.refl _ _).alloc (Nat.le_refl _) _).alloc (by simp) _, ?_, ?_⟩
  ·show _ = some _
   rw [Below.heap_alloc _ _ _ (by simp), hZ]
   exact heap_alloc_new _ _
  show _ = some (Obj.cells (mk (fun _ => false)) _ _)
  rw [hZ]
  have := heap_alloc_new (w.alloc (.cells Z 94)) (.cells Z 94)
  simpa using this
 clear hz hZ
 go_loopw [8] (fun i wr => ∃ k : Nat, k ≤ n ∧ i = .int .i64 k ∧ FillInv w (markK l true (fun _ => false) k) w.heap.size (w.heap.size + 1) wr) (fun i _ => n - (intOf i).toNat)
 case atStart => exact ⟨0, Nat.zero_le _, rfl, I0⟩
 case round =>
  obtain ⟨k, hk, rfl, I⟩ := hrel
  clear I0
  by_cases hlt : k < n
  ·have hrr := hr.below I.b
   have hll := hr.len
   obtain ⟨b, o, x, y, rfl, c1, c2, hX⟩ := hrr.at_.at k (by omega)
   obtain ⟨f, s, rfl, rfl, hfs⟩ := reg_nat (by have := hM.ok k (by omega); rw [hX.out] at this; exact this)
   have hbx := below_box wr (.cells #[.int .i64 f, .int .i64 s] 47)
   have I1 := I.step hbx
   have hrch : hr.reach = hr.reach := rfl
   have hreach := hr.reach
   have HE : Hid (setH f s true (markK l true (fun _ => false) k) = markK l true (fun _ => false) (k + 1)) := by
    show _ = setH (l.getD k (0, 0)).1 (l.getD k (0, 0)).2 true (markK l true (fun _ => false) k)
    rw [hX.out]
   clear hrr I hrch
   go_wp2_with fail
   go_at_call 75
   refine (bset_any _ _ _ f s true I1.m hfs).mono ?_
   rintro e w1 ⟨rfl, hm1, hb1⟩
   rw [HE.out] at hm1
   have I2 := I1.fill hb1 hm1
   clear I1 hm1 hb1 c1 c2 hbx
   go_wp2
   go_roundw
   case rel => exact ⟨k + 1, by omega, by go_num, I2⟩
   case measure => simp [intOf]; omega
  have hkn : k = l.length := by have := hr.len; omega
  have J : MarksAt wr (w.heap.size + 1) 94 (inL l) := by show _ = some _; rw [← markK_all, ← hkn]; exact I.m
  obtain ⟨N, hN⟩ : ∃ N, N = 256 := ⟨_, rfl⟩
  have zT : ∀ w, (sizeOf 94).run Tryz.prog w = .ok N w := by subst hN; exact fun _ => by kernel_rfl
  have aT : ∀ w, (isAgg 94).run Tryz.prog w = .ok true w := fun _ => by kernel_rfl
  have hcs : (mk (inL l)).size = N := by rw [mk_size, hN]
  have hone := mk_oneCell (inL l)
  have hr0 : wr.heap[w.heap.size]? = some (.cells (mk fun _ => false) 94 (0, 0)) := I.res
  have hzs : (mk fun _ => false).size = N := by rw [mk_size, hN]
  have hB := I.b
  unfold MarksAt at J
  obtain ⟨C, hC⟩ : ∃ C, mk (inL l) = C := ⟨_, rfl⟩
  rw [hC] at J hcs hone
  have HC : Hid (mk (inL l) = C) := hC
  obtain ⟨Z0, hZ0⟩ : ∃ Z0, (mk fun _ => false) = Z0 := ⟨_, rfl⟩
  rw [hZ0] at hr0 hzs
  clear hC hZ0 hkn I hN hM hr
  have hl : (loadCellsFrom ⟨w.heap.size + 1, 0, none⟩ 0 N #[]).run Tryz.prog wr = .ok C wr := load_row J hcs
  have hs1 : (storeCells ⟨w.heap.size, 0, none⟩ C.toList 0).run Tryz.prog wr = .ok () (wr.setRow w.heap.size C) := store_row hr0 (by rw [hcs, hzs]) hone
  have hrow : (wr.setRow w.heap.size C).heap[w.heap.size]? = some (.cells C 94 (0, 0)) := setRow_heap _ _ _ _ _ _ hr0
  have hl3 := load_row (P := Tryz.prog) hrow hcs
  have hBF := below_setRow hB (Nat.le_refl _) C
  clear hrow
  go_wp2
  refine bodyPost_ret (v := .agg C) ?_ rfl ⟨by rw [HC.out], hBF⟩
  simp [results, Tryz.results74, go_sem, zT, aT, hl3]
theorem bfree_any (w : World) (mo : Option Addr) (mn mc : Nat) (M : List (Int × Int)) (ro : Option Addr) (rn rc : Nat) (R : List (Int × Int)) (hm : Regs w mo mn M) (hr : Regs w ro rn R) (hM : MayP M) (hR : MayP R) :
    Calls Tryz.prog 51 #[.agg #[.slice mo mn mc, .slice ro rn rc]] w fun e w' => e = .returned (.agg (mk fun p => inL M p && !inL R p)) ∧ Below w.heap.size w w' := by
 have hz := zero_marks
 obtain ⟨Z, hZ⟩ : ∃ Z, mk (fun _ => false) = Z := ⟨_, rfl⟩
 rw [hZ] at hz
 go_enter Tryz.func51, Tryz.ntmps51
 go_wp2_with fail
 go_at_call 74
 have hb2 : Below w.heap.size w ((w.alloc (.cells #[.slice mo mn mc, .slice ro rn rc] 25)).alloc (.cells Z 94)) := ((Below.refl _ _).alloc (Nat.le_refl _) _).alloc (by simp) _
 have p1 : ((w.alloc (.cells #[.slice mo mn mc, .slice ro rn rc] 25)).alloc (.cells Z 94)).cell? ⟨w.heap.size, 1, none⟩ = some (.slice ro rn rc) := by go_simp
 have hres : MarksAt ((w.alloc (.cells #[.slice mo mn mc, .slice ro rn rc] 25)).alloc (.cells Z 94)) (w.heap.size + 1) 94 (fun _ => false) := by
  show _ = some _
  rw [hZ]
  have := heap_alloc_new (w.alloc (.cells #[.slice mo mn mc, .slice ro rn rc] 25)) (.cells Z 94)
  simpa using this
 refine (bmark_any _ mo mn mc M (hm.below hb2) hM).mono ?_
 rintro e w1 ⟨rfl, hb1⟩
 replace p1 := keep p1 hb1
 replace hres := hres.below hb1
 have hB1 := hb2.trans (hb1.mono hb2.size)
 have hs1 : w.heap.size + 2 ≤ w1.heap.size := by have := hb1.size; simp at this; omega
 clear hb1 hb2
 have hzs : Z.size = (mk (inL M)).size := by rw [← hZ, mk_size, mk_size]
 have hst : (storeCells ⟨w1.heap.size, 0, none⟩ (mk (inL M)).toList 0).run Tryz.prog (w1.alloc (.cells Z 94)) = .ok () ((w1.alloc (.cells Z 94)).setRow w1.heap.size (mk (inL M))) := store_row (heap_alloc_new _ _) hzs (mk_oneCell _)
 have hrow : MarksAt ((w1.alloc (.cells Z 94)).setRow w1.heap.size (mk (inL M))) w1.heap.size 94 (inL M) := setRow_heap _ _ _ _ _ _ (heap_alloc_new _ _)
 have hbs : Below w1.heap.size w1 ((w1.alloc (.cells Z 94)).setRow w1.heap.size (mk (inL M))) := below_setRow (below_box _ _) (Nat.le_refl _) _
 have I0 : FillInv w (inL M) (w.heap.size + 1) w1.heap.size ((w1.alloc (.cells Z 94)).setRow w1.heap.size (mk (inL M))) := ⟨by have := hbs.size; exact hrow.lt, by omega, by omega, hB1.trans (hbs.mono (by omega)), hres.below hbs, hrow⟩
 replace p1 := keep p1 hbs
 have hrr := hr.below I0.b
 obtain ⟨C, hC⟩ : ∃ C, mk (inL M) = C := ⟨_, rfl⟩
 rw [hC] at hst I0 p1 hrr ⊢
 obtain ⟨W2, hW2⟩ : ∃ W2, (w1.alloc (.cells Z 94)).setRow w1.heap.size C = W2 := ⟨_, rfl⟩
 rw [hW2] at hst I0 p1 hrr
 obtain ⟨N, hN⟩ : ∃ N, N = 256 := ⟨_, rfl⟩
 have zT : ∀ w, (sizeOf 94).run Tryz.prog w = .ok N w := by subst hN; exact fun _ => by kernel_rfl
 have aT : ∀ w, (isAgg 94).run Tryz.prog w = .ok true w := fun _ => by kernel_rfl
 have hcN : C.size = N := by rw [← hC, mk_size, hN]
 have hlt0 := I0.size
 obtain ⟨HNN⟩ : Nonempty (Hid (N = 256)) := ⟨hN⟩
 have hR0 := hr.at_
 have hRl := hr.len
 clear hN hrow hbs hres hzs hB1 hm hr
 go_wp2
 clear hst hcN hz hC hW2 p1
 go_loopw [12] (fun i wr => ∃ k : Nat, k ≤ rn ∧ i = .int .i64 k ∧ FillInv w (markK R false (inL M) k) (w.heap.size + 1) w1.heap.size wr ∧ Regs wr ro rn R) (fun i _ => rn - (intOf i).toNat)
 case atStart => exact ⟨0, Nat.zero_le _, rfl, I0, hrr⟩
 case round =>
  obtain ⟨k, hk, rfl, I, hr⟩ := hrel
  clear I0 hrr
  by_cases hlt : k < rn
  ·have hll := hr.len
   have hold : ∀ a, ro = some a → a.block < w.heap.size := by
    obtain ⟨b', o', e', c', _⟩ := hR0 k (by omega)
    intro a ha
    rw [e'] at ha
    cases ha
    have := World.block_lt_of_cell? w _ c'
    exact this
   obtain ⟨b, o, x, y, rfl, c1, c2, hX⟩ := hr.at_.at k (by omega)
   obtain ⟨f, s, rfl, rfl, hfs⟩ := reg_nat (by have := hR.ok k (by omega); rw [hX.out] at this; exact this)
   have hbx := below_box wr (.cells #[.int .i64 f, .int .i64 s] 47)
   have I1 := I.step hbx
   have hreach := hr.reach
   have HE : Hid (setH f s false (markK R false (inL M) k) = markK R false (inL M) (k + 1)) := by
    show _ = setH (R.getD k (0, 0)).1 (R.getD k (0, 0)).2 false (markK R false (inL M) k)
    rw [hX.out]
   clear I
   go_wp2_with fail
   go_at_call 75
   refine (bset_any _ _ _ f s false I1.m hfs).mono ?_
   rintro e w3 ⟨rfl, hm1, hb1⟩
   rw [HE.out] at hm1
   have I2 := I1.fill hb1 hm1
   have hr2 := hb1.regs (hr.below hbx) (fun a ha => by have := hold a ha; omega)
   clear I1 hm1 hb1 c1 c2 hbx hr
   go_wp2
   go_roundw
   case rel => exact ⟨k + 1, by omega, by go_num, I2, hr2⟩
   case measure => simp [intOf]; omega
  have hkn : k = R.length := by have := hr.len; omega
  have J : MarksAt wr w1.heap.size 94 (fun p => inL M p && !inL R p) := by show _ = some _; rw [← markK_free, ← hkn]; exact I.m
  have hN := HNN.out
  have hcs : (mk (fun p => inL M p && !inL R p)).size = N := by rw [mk_size, hN]
  have hone := mk_oneCell (fun p => inL M p && !inL R p)
  have hr0 : wr.heap[w.heap.size + 1]? = some (.cells (mk fun _ => false) 94 (0, 0)) := I.res
  have hzs : (mk fun _ => false).size = N := by rw [mk_size, hN]
  have hB := I.b
  unfold MarksAt at J
  obtain ⟨C, hC⟩ : ∃ C, mk (fun p => inL M p && !inL R p) = C := ⟨_, rfl⟩
  rw [hC] at J hcs hone
  have HC : Hid (mk (fun p => inL M p && !inL R p) = C) := hC
  rw [hZ] at hr0 hzs
  clear hC hZ hkn I hN hM hR hr HNN hR0
  have hl : (loadCellsFrom ⟨w1.heap.size, 0, none⟩ 0 N #[]).run Tryz.prog wr = .ok C wr := load_row J hcs
  have hs2 : (storeCells ⟨w.heap.size + 1, 0, none⟩ C.toList 0).run Tryz.prog wr = .ok () (wr.setRow (w.heap.size + 1) C) := store_row hr0 (by rw [hcs, hzs]) hone
  have hrow : (wr.setRow (w.heap.size + 1) C).heap[w.heap.size + 1]? = some (.cells C 94 (0, 0)) := setRow_heap _ _ _ _ _ _ hr0
  have hl3 := load_row (P := Tryz.prog) hrow hcs
  have hBF := below_setRow hB (Nat.le_succ w.heap.size) C
  clear hrow
  go_wp2
  refine bodyPost_ret (v := .agg C) ?_ rfl ⟨by rw [HC.out], hBF⟩
  simp [results, Tryz.results51, go_sem, zT, aT, hl3]
end Go.Proofs.YtjohdbiipeedkaaGreatDoor
