/-
  OWN TEXTS.
-/
import Derived.Test.YtjohdbiipeedkabGreatDoorPagesBadPart11
set_option maxRecDepth 10000
set_option maxHeartbeats 4000000
namespace Go.Proofs.YtjohdbiipeedkabGreatDoor
open Go Go.RowKit Go.Proofs.YtjohdbiipeedkabGreatDoor.Kit
theorem owns_ex {P : Nat → Prop} {W W' : World} {base : Nat} {e : TypeId} {ao : Option Addr} {n cap size : Nat} {xs : List Value} (h : W.ownsRow base e size (.slice ao n cap) n xs) (hb : Ex P W W') (hne : ∀ a, ao = some a → ¬ P a.block) : W'.ownsRow base e size (.slice ao n cap) n xs := by
 refine ⟨h.1, ?_⟩
 rcases h.2 with q | ⟨g, cap', cur, q, h1, h2, h3⟩
 ·exact .inl q
 refine .inr ⟨g, cap', cur, q, h1, ?_, h3⟩
 simp only [Value.slice.injEq] at q
 exact hb.row h2 (hne _ q.1)
theorem HOwn.rowV {w : World} {B gz gl gv c : Nat} {y : Hx} (h : HOwn w B gz gl gv y) (hc : AwayP c y) (hz : gz ≠ c) (hw : c < w.heap.size) :
    ∃ g, (∀ a, y.vo = some a → a.block = g) ∧ AwayP g y ∧ gz ≠ g ∧ g < w.heap.size ∧ ((g = gv ∧ ∃ a, y.vo = some a) ∨ g = c) := by
 cases e : y.vo with
 | none => exact ⟨c, (fun a ha => (by cases ha)), hc, hz, hw, .inr rfl⟩
 | some a =>
  have := (owns_blk h.ov a e).2.1
  exact ⟨gv, fun b hb => by rw [← e] at hb; exact h.ev b hb, ⟨fun z hz _ a ha => ((h.zoff z hz).1 a ha).2.2, fun z hz _ a ha => ((h.zoff z hz).2.1 a ha).2.2, fun _ a ha => (h.moff a ha).2.2, fun _ a ha => by rw [h.el a ha]; exact h.lv, fun l hl _ a ha => ((h.loff l hl).1 a ha).2.2⟩, h.zv, by rw [← h.ev a e]; exact this, .inl ⟨rfl, a, rfl⟩⟩
theorem Away.toP {b : Nat} {y : Hx} (h : Away b y) : AwayP b y := ⟨h.f, h.t, h.m, h.l, h.p⟩
theorem pAlloc_no1a (w : World) (x : Hx) (cpu o fl : Int) (hx : x.At w) (hM : HMay x.hp) (hc : ¬ (0 ≤ cpu ∧ cpu ≤ x.cpus - 1)) :
    Calls Tryz.prog 6 #[.agg #[.slice x.zo x.zn x.zc, .slice x.mo x.mn x.mc, .int .i64 x.cpus, .slice x.lo x.ln x.lc, .slice x.vo x.vn x.vc], .int .i64 cpu, .int .i64 o, .int .i64 fl] w fun e w' => e = .returned (.tuple #[.agg #[.slice none 0 0, .slice none 0 0, .int .i64 0, .slice none 0 0, .slice none 0 0], .int .i64 0, .int .i64 1]) ∧ Below w.heap.size w w' := by
 have HC : ∀ W, x.At W → Calls Tryz.prog 15 #[.agg #[.slice x.zo x.zn x.zc, .slice x.mo x.mn x.mc, .int .i64 x.cpus, .slice x.lo x.ln x.lc, .slice x.vo x.vn x.vc]] W fun e w' => e = .returned (.int .i64 0) ∧ Below W.heap.size W w' := fun W hW => (pCheck_any W x hW).mono fun e w1 h1 => by
  obtain ⟨⟨c, rfl, hc⟩, hb⟩ := h1
  rcases hc with ⟨rfl, _⟩ | ⟨_, hn⟩
  ·exact ⟨rfl, hb⟩
  exact absurd hM hn
 have B0 := Below.refl w.heap.size w
 refine sx_enter (args := [_, _, _, _]) 71 Tryz.func6 rfl rfl rfl ?_
 refine vS (vR ?_); intro A f
 refine l_box f rfl rfl rfl rfl rfl ?_; clear f A; intro b1 W2 eb1 hb3 rb1 A f; dsimp only [Value.cells] at rb1
 have z_B0_b1 := B0.size; rw [eb1] at z_B0_b1
 replace B0 := Below.next B0 hb3
 refine l_alloc (z := .agg #[.slice none 0 0, .slice none 0 0, .int .i64 0, .slice none 0 0, .slice none 0 0]) f rfl rfl rfl rfl (by kernel_rfl) ?_; clear f A; intro b4 W5 eb4 hb6 rb4 A f; dsimp only [Value.cells] at rb4
 have o_b1_b4 : b1 < b4 := by have := row_lt rb1; omega
 have z_B0_b4 := B0.size; rw [eb4] at z_B0_b4
 replace B0 := Below.next B0 hb6; replace rb1 := row_next rb1 hb6
 revert A; refine vla (h:=vla (h:=vW (vS (vS (vR (vl5 (rowq rb1) (h:=vlc (HC _ (hx.below B0)) (h:=?_)))))))); intro W8 hb7; replace B0 := Below.next B0 hb7; replace rb1 := row_next rb1 hb7; replace rb4 := row_next rb4 hb7
 refine vla (h:=vW (vS (vR (vlm (h:=vlb (y_neq rfl rfl rfl) (h:=?_) (g:=?_))))))
 ·intro c9; exfalso; omega
 intro c9
 refine vW (vD (h:=vK (vT (vS (vS (vR (vl5 (rowq rb1) (h:=vlm (h:=vlc (by have e := pIsCpu_any W8 (.slice x.zo x.zn x.zc) (.slice x.mo x.mn x.mc) (.slice x.lo x.ln x.lc) (.slice x.vo x.vn x.vc) x.cpus cpu; rw [inB_f hc] at e; exact e) (h:=?_)))))))))); intro W10 hb11; replace B0 := Below.next B0 hb11; replace rb1 := row_next rb1 hb11; replace rb4 := row_next rb4 hb11
 refine vln (h:=vlm (h:=vlO 3 (h:=vlp (h:=vW (vC (h:=vS (vR (vld (y_build #[.slice none 0 0, .slice none 0 0, .int .i64 0, .slice none 0 0, .slice none 0 0] rfl rfl (by kernel_rfl)) (h:=?_))))))))); intro A f
 refine vls f rb4 ?_
 clear rb4; intro W12 hb13 rb4; dsimp only [setL, over, Value.cells] at rb4; replace B0 := Below.thenBut B0 hb13 (by omega); replace rb1 := But.row hb13 rb1 (by omega)
 revert A; refine vla (h:=vla (h:=vW (vE (vF ?_)))); intro A f
 refine x_retc2 f rfl rfl rfl rfl (ag rfl) rb4 rfl ?_
 exact ⟨rfl, B0⟩
theorem pAlloc_no1b (w : World) (x : Hx) (cpu o fl : Int) (hx : x.At w) (hM : HMay x.hp) (hc : 0 ≤ cpu ∧ cpu ≤ x.cpus - 1) (ho : ¬ (0 ≤ o ∧ o ≤ 4)) :
    Calls Tryz.prog 6 #[.agg #[.slice x.zo x.zn x.zc, .slice x.mo x.mn x.mc, .int .i64 x.cpus, .slice x.lo x.ln x.lc, .slice x.vo x.vn x.vc], .int .i64 cpu, .int .i64 o, .int .i64 fl] w fun e w' => e = .returned (.tuple #[.agg #[.slice none 0 0, .slice none 0 0, .int .i64 0, .slice none 0 0, .slice none 0 0], .int .i64 0, .int .i64 1]) ∧ Below w.heap.size w w' := by
 have HC : ∀ W, x.At W → Calls Tryz.prog 15 #[.agg #[.slice x.zo x.zn x.zc, .slice x.mo x.mn x.mc, .int .i64 x.cpus, .slice x.lo x.ln x.lc, .slice x.vo x.vn x.vc]] W fun e w' => e = .returned (.int .i64 0) ∧ Below W.heap.size W w' := fun W hW => (pCheck_any W x hW).mono fun e w1 h1 => by
  obtain ⟨⟨c, rfl, hc⟩, hb⟩ := h1
  rcases hc with ⟨rfl, _⟩ | ⟨_, hn⟩
  ·exact ⟨rfl, hb⟩
  exact absurd hM hn
 have B0 := Below.refl w.heap.size w
 refine sx_enter (args := [_, _, _, _]) 71 Tryz.func6 rfl rfl rfl ?_
 refine vS (vR ?_); intro A f
 refine l_box f rfl rfl rfl rfl rfl ?_; clear f A; intro b1 W2 eb1 hb3 rb1 A f; dsimp only [Value.cells] at rb1
 have z_B0_b1 := B0.size; rw [eb1] at z_B0_b1
 replace B0 := Below.next B0 hb3
 refine l_alloc (z := .agg #[.slice none 0 0, .slice none 0 0, .int .i64 0, .slice none 0 0, .slice none 0 0]) f rfl rfl rfl rfl (by kernel_rfl) ?_; clear f A; intro b4 W5 eb4 hb6 rb4 A f; dsimp only [Value.cells] at rb4
 have o_b1_b4 : b1 < b4 := by have := row_lt rb1; omega
 have z_B0_b4 := B0.size; rw [eb4] at z_B0_b4
 replace B0 := Below.next B0 hb6; replace rb1 := row_next rb1 hb6
 revert A; refine vla (h:=vla (h:=vW (vS (vS (vR (vl5 (rowq rb1) (h:=vlc (HC _ (hx.below B0)) (h:=?_)))))))); intro W8 hb7; replace B0 := Below.next B0 hb7; replace rb1 := row_next rb1 hb7; replace rb4 := row_next rb4 hb7
 refine vla (h:=vW (vS (vR (vlm (h:=vlb (y_neq rfl rfl rfl) (h:=?_) (g:=?_))))))
 ·intro c9; exfalso; omega
 intro c9
 refine vW (vD (h:=vK (vT (vS (vS (vR (vl5 (rowq rb1) (h:=vlm (h:=vlc (by have e := pIsCpu_any W8 (.slice x.zo x.zn x.zc) (.slice x.mo x.mn x.mc) (.slice x.lo x.ln x.lc) (.slice x.vo x.vn x.vc) x.cpus cpu; rw [inB_t hc] at e; exact e) (h:=?_)))))))))); intro W10 hb11; replace B0 := Below.next B0 hb11; replace rb1 := row_next rb1 hb11; replace rb4 := row_next rb4 hb11
 refine vln (h:=vlm (h:=vlm (h:=vlc (by have e := pIsOrder_any W10 o; rw [inB_f ho] at e; exact c_same e) (h:=?_)))); intro W12 hb13; replace B0 := Below.next B0 hb13; replace rb1 := row_next rb1 hb13; replace rb4 := row_next rb4 hb13
 refine vln (h:=vlp (h:=vW (vC (h:=vS (vR (vld (y_build #[.slice none 0 0, .slice none 0 0, .int .i64 0, .slice none 0 0, .slice none 0 0] rfl rfl (by kernel_rfl)) (h:=?_))))))); intro A f
 refine vls f rb4 ?_
 clear rb4; intro W14 hb15 rb4; dsimp only [setL, over, Value.cells] at rb4; replace B0 := Below.thenBut B0 hb15 (by omega); replace rb1 := But.row hb15 rb1 (by omega)
 revert A; refine vla (h:=vla (h:=vW (vE (vF ?_)))); intro A f
 refine x_retc2 f rfl rfl rfl rfl (ag rfl) rb4 rfl ?_
 exact ⟨rfl, B0⟩
theorem pAlloc_no3 (w : World) (x : Hx) (cpu o fl : Int) (hx : x.At w) (hM : HMay x.hp) (hc : 0 ≤ cpu ∧ cpu ≤ x.cpus - 1) (ho : 0 ≤ o ∧ o ≤ 4) (hf1 : -9223372036854775808 ≤ fl) (hf2 : fl ≤ 9223372036854775807) (hfn : ¬ flagsOk fl) :
    Calls Tryz.prog 6 #[.agg #[.slice x.zo x.zn x.zc, .slice x.mo x.mn x.mc, .int .i64 x.cpus, .slice x.lo x.ln x.lc, .slice x.vo x.vn x.vc], .int .i64 cpu, .int .i64 o, .int .i64 fl] w fun e w' => e = .returned (.tuple #[.agg #[.slice none 0 0, .slice none 0 0, .int .i64 0, .slice none 0 0, .slice none 0 0], .int .i64 0, .int .i64 3]) ∧ Below w.heap.size w w' := by
 have HC : ∀ W, x.At W → Calls Tryz.prog 15 #[.agg #[.slice x.zo x.zn x.zc, .slice x.mo x.mn x.mc, .int .i64 x.cpus, .slice x.lo x.ln x.lc, .slice x.vo x.vn x.vc]] W fun e w' => e = .returned (.int .i64 0) ∧ Below W.heap.size W w' := fun W hW => (pCheck_any W x hW).mono fun e w1 h1 => by
  obtain ⟨⟨c, rfl, hc⟩, hb⟩ := h1
  rcases hc with ⟨rfl, _⟩ | ⟨_, hn⟩
  ·exact ⟨rfl, hb⟩
  exact absurd hM hn
 have B0 := Below.refl w.heap.size w
 refine sx_enter (args := [_, _, _, _]) 71 Tryz.func6 rfl rfl rfl ?_
 refine vS (vR ?_); intro A f
 refine l_box f rfl rfl rfl rfl rfl ?_; clear f A; intro b1 W2 eb1 hb3 rb1 A f; dsimp only [Value.cells] at rb1
 have z_B0_b1 := B0.size; rw [eb1] at z_B0_b1
 replace B0 := Below.next B0 hb3
 refine l_alloc (z := .agg #[.slice none 0 0, .slice none 0 0, .int .i64 0, .slice none 0 0, .slice none 0 0]) f rfl rfl rfl rfl (by kernel_rfl) ?_; clear f A; intro b4 W5 eb4 hb6 rb4 A f; dsimp only [Value.cells] at rb4
 have o_b1_b4 : b1 < b4 := by have := row_lt rb1; omega
 have z_B0_b4 := B0.size; rw [eb4] at z_B0_b4
 replace B0 := Below.next B0 hb6; replace rb1 := row_next rb1 hb6
 revert A; refine vla (h:=vla (h:=vW (vS (vS (vR (vl5 (rowq rb1) (h:=vlc (HC _ (hx.below B0)) (h:=?_)))))))); intro W8 hb7; replace B0 := Below.next B0 hb7; replace rb1 := row_next rb1 hb7; replace rb4 := row_next rb4 hb7
 refine vla (h:=vW (vS (vR (vlm (h:=vlb (y_neq rfl rfl rfl) (h:=?_) (g:=?_))))))
 ·intro c9; exfalso; omega
 intro c9
 refine vW (vD (h:=vK (vT (vS (vS (vR (vl5 (rowq rb1) (h:=vlm (h:=vlc (by have e := pIsCpu_any W8 (.slice x.zo x.zn x.zc) (.slice x.mo x.mn x.mc) (.slice x.lo x.ln x.lc) (.slice x.vo x.vn x.vc) x.cpus cpu; rw [inB_t hc] at e; exact e) (h:=?_)))))))))); intro W10 hb11; replace B0 := Below.next B0 hb11; replace rb1 := row_next rb1 hb11; replace rb4 := row_next rb4 hb11
 refine vln (h:=vlm (h:=vlm (h:=vlc (by have e := pIsOrder_any W10 o; rw [inB_t ho] at e; exact c_same e) (h:=?_)))); intro W12 hb13; replace B0 := Below.next B0 hb13; replace rb1 := row_next rb1 hb13; replace rb4 := row_next rb4 hb13
 refine vln (h:=vlp (h:=vW (vD (h:=vK (vT (vS (vS (vR (vlm (h:=vlc (by have e := pAreFlags_c W12 fl hf1 hf2; rw [decide_eq_false hfn] at e; exact e) (h:=?_))))))))))); intro W14 hb15; replace B0 := Below.next B0 hb15; replace rb1 := row_next rb1 hb15; replace rb4 := row_next rb4 hb15
 refine vln (h:=vW (vC (h:=vS (vR (vld (y_build #[.slice none 0 0, .slice none 0 0, .int .i64 0, .slice none 0 0, .slice none 0 0] rfl rfl (by kernel_rfl)) (h:=?_)))))); intro A f
 refine vls f rb4 ?_
 clear rb4; intro W16 hb17 rb4; dsimp only [setL, over, Value.cells] at rb4; replace B0 := Below.thenBut B0 hb17 (by omega); replace rb1 := But.row hb17 rb1 (by omega)
 revert A; refine vla (h:=vla (h:=vW (vE (vF ?_)))); intro A f
 refine x_retc2 f rfl rfl rfl rfl (ag rfl) rb4 rfl ?_
 exact ⟨rfl, B0⟩
theorem pAlloc_fr (w : World) (x : Hx) (cpu o fl : Int) (hx : x.At w) (hM : HMay x.hp) (hT : TabAt w) (hc : 0 ≤ cpu ∧ cpu ≤ x.cpus - 1) (ho : ordOk o) (hf1 : -9223372036854775808 ≤ fl) (hf2 : fl ≤ 9223372036854775807) (hf : flagsOk fl) :
    Calls Tryz.prog 6 #[.agg #[.slice x.zo x.zn x.zc, .slice x.mo x.mn x.mc, .int .i64 x.cpus, .slice x.lo x.ln x.lc, .slice x.vo x.vn x.vc], .int .i64 cpu, .int .i64 o, .int .i64 fl] w fun e w' => ((find2H x.hp cpu o fl = none ∧ e = .returned (.tuple #[.agg #[.slice none 0 0, .slice none 0 0, .int .i64 0, .slice none 0 0, .slice none 0 0], .int .i64 0, .int .i64 6])) ∨ ∃ (y2 : Hx) (G : Hp) (p : Int), find2H x.hp cpu o fl = some (G, p) ∧ e = .returned (.tuple #[.agg #[.slice y2.zo y2.zn y2.zc, .slice y2.mo y2.mn y2.mc, .int .i64 y2.cpus, .slice y2.lo y2.ln y2.lc, .slice y2.vo y2.vn y2.vc], .int .i64 p, .int .i64 0]) ∧ y2.At w' ∧ y2.hp = { G with live := addB G.live ⟨p, o, typeF fl⟩ } ∧ FreshH w.heap.size y2) ∧ Below w.heap.size w w' := by
 have HC : ∀ W, x.At W → Calls Tryz.prog 15 #[.agg #[.slice x.zo x.zn x.zc, .slice x.mo x.mn x.mc, .int .i64 x.cpus, .slice x.lo x.ln x.lc, .slice x.vo x.vn x.vc]] W fun e w' => e = .returned (.int .i64 0) ∧ Below W.heap.size W w' := fun W hW => (pCheck_any W x hW).mono fun e w1 h1 => by
  obtain ⟨⟨c, rfl, hc⟩, hb⟩ := h1
  rcases hc with ⟨rfl, _⟩ | ⟨_, hn⟩
  ·exact ⟨rfl, hb⟩
  exact absurd hM hn
 have hlf := live_few hM.lv
 have hxl := hx.live.len
 rw [show x.hp.live = x.live from rfl] at hlf
 have B0 := Below.refl w.heap.size w
 refine sx_enter (args := [_, _, _, _]) 71 Tryz.func6 rfl rfl rfl ?_
 refine vS (vR ?_); intro A f
 refine l_box f rfl rfl rfl rfl rfl ?_; clear f A; intro b1 W2 eb1 hb3 rb1 A f; dsimp only [Value.cells] at rb1
 have z_B0_b1 := B0.size; rw [eb1] at z_B0_b1
 replace B0 := Below.next B0 hb3
 refine l_alloc (z := .agg #[.slice none 0 0, .slice none 0 0, .int .i64 0, .slice none 0 0, .slice none 0 0]) f rfl rfl rfl rfl (by kernel_rfl) ?_; clear f A; intro b4 W5 eb4 hb6 rb4 A f; dsimp only [Value.cells] at rb4
 have o_b1_b4 : b1 < b4 := by have := row_lt rb1; omega
 have z_B0_b4 := B0.size; rw [eb4] at z_B0_b4
 replace B0 := Below.next B0 hb6; replace rb1 := row_next rb1 hb6
 revert A; refine vla (h:=vla (h:=vW (vS (vS (vR (vl5 (rowq rb1) (h:=vlc (HC _ (hx.below B0)) (h:=?_)))))))); intro W8 hb7; replace B0 := Below.next B0 hb7; replace rb1 := row_next rb1 hb7; replace rb4 := row_next rb4 hb7
 refine vla (h:=vW (vS (vR (vlm (h:=vlb (y_neq rfl rfl rfl) (h:=?_) (g:=?_))))))
 ·intro c9; exfalso; omega
 intro c9
 refine vW (vD (h:=vK (vT (vS (vS (vR (vl5 (rowq rb1) (h:=vlm (h:=vlc (by have e := pIsCpu_any W8 (.slice x.zo x.zn x.zc) (.slice x.mo x.mn x.mc) (.slice x.lo x.ln x.lc) (.slice x.vo x.vn x.vc) x.cpus cpu; rw [inB_t hc] at e; exact e) (h:=?_)))))))))); intro W10 hb11; replace B0 := Below.next B0 hb11; replace rb1 := row_next rb1 hb11; replace rb4 := row_next rb4 hb11
 refine vln (h:=vlm (h:=vlm (h:=vlc (by have e := pIsOrder_any W10 o; rw [inB_t ho] at e; exact c_same e) (h:=?_)))); intro W12 hb13; replace B0 := Below.next B0 hb13; replace rb1 := row_next rb1 hb13; replace rb4 := row_next rb4 hb13
 refine vln (h:=vlp (h:=vW (vD (h:=vK (vT (vS (vS (vR (vlm (h:=vlc (by have e := pAreFlags_c W12 fl hf1 hf2; rw [decide_eq_true hf] at e; exact e) (h:=?_))))))))))); intro W14 hb15; replace B0 := Below.next B0 hb15; replace rb1 := row_next rb1 hb15; replace rb4 := row_next rb4 hb15
 refine vln (h:=vW (vD (h:=vK (vT (vS (vR (vl5 (rowq rb1) (h:=?_))))))))
 have lc_b1 := row_lt rb1
 have lc_b4 := row_lt rb4
 obtain ⟨B, hBd⟩ : ∃ B, B = W14.heap.size := ⟨_, rfl⟩
 have hBw := B0.size
 intro A f
 refine l_call f rfl rfl rfl (IsCall.mk' (cap := []) rfl rfl rfl) (pl rfl) (pCopy_own _ x (hx.below B0)) ?_
 clear f A
 rintro _ W16 ⟨⟨gz, gl, gv, y, rfl, ey, O⟩, hb17⟩
 refine ⟨_, rfl, ?_⟩
 intro A f
 have hcs := hb17.size
 rw [← hBd] at O
 replace B0 := Below.next B0 hb17; replace rb1 := row_next rb1 hb17; replace rb4 := row_next rb4 hb17
 have evl : y.live = x.live := congrArg Hp.live ey
 have hvn : y.vn = x.vn := by have h1 := O.at_.live.len; have h2 := hx.live.len; rw [evl] at h1; omega
 have hyz : 0 < y.zn := by have h1 := O.at_.zones.len; have h2 : y.hp.zones.length = y.zs.length := (by show (y.zs.map _).length = _; rw [List.length_map]); rw [ey] at h2; have h3 := hM.zs.n; omega
 obtain ⟨s10, hs10⟩ : ∃ n, n = W16.heap.size := ⟨_, rfl⟩
 have aw10L : ∀ b, s10 ≤ b → AwayL b y := fun b hb => awayL_old O.at_ (by omega)
 have aw10 : ∀ b, s10 ≤ b → Away b y := fun b hb => away_old O.at_ (by omega)
 have lgz : gz < s10 := by have h1 := O.hz.lt hyz; omega
 have lgl : ∀ a, y.lo = some a → a.block < s10 := fun a ha => by have := (owns_blk O.ol a ha).2.1; omega
 have lgv : ∀ a, y.vo = some a → a.block < s10 := fun a ha => by have := (owns_blk O.ov a ha).2.1; omega
 have lgB := O.gzB
 have lglB := O.glB
 have lgvB := O.gvB
 refine l_as (z := .agg #[.slice none 0 0, .slice none 0 0, .int .i64 0, .slice none 0 0, .slice none 0 0]) f rfl rfl rfl rfl (by kernel_rfl) rfl rfl (fun _ => rfl) (fun _ => rfl) rfl (by intro u hu; simp [Value.cells] at hu; rcases hu with rfl | rfl | rfl | rfl | rfl <;> rfl) ?_; clear f A; intro b18 W19 eb18 hb20 rb18 A f
 dsimp only [Value.cells] at rb18
 have hpb18 := hb20
 have o_b1_b18 : b1 < b18 := by have := row_lt rb1; omega
 have o_b4_b18 : b4 < b18 := by have := row_lt rb4; omega
 have z_B0_b18 := B0.size; rw [eb18] at z_B0_b18
 replace B0 := Below.next B0 hb20; replace O := O.below hb20; replace rb1 := row_next rb1 hb20; replace rb4 := row_next rb4 hb20
 revert A; refine vW (vS (vR (vlm (h:=vlm (h:=vlm (h:=vld (y_build #[.int .i64 cpu, .int .i64 o, .int .i64 fl] rfl rfl (by kernel_rfl)) (h:=?_))))))); intro A f
 refine l_as (z := .agg #[.int .i64 0, .int .i64 0, .int .i64 0]) f rfl rfl rfl rfl (by kernel_rfl) rfl rfl (fun _ => rfl) (fun _ => rfl) rfl (by intro u hu; simp [Value.cells] at hu; rcases hu with rfl | rfl | rfl <;> rfl) ?_; clear f A; intro b21 W22 eb21 hb23 rb21 A f
 dsimp only [Value.cells] at rb21
 have hpb21 := hb23
 have o_b1_b21 : b1 < b21 := by have := row_lt rb1; omega
 have o_b4_b21 : b4 < b21 := by have := row_lt rb4; omega
 have o_b18_b21 : b18 < b21 := by have := row_lt rb18; omega
 have z_B0_b21 := B0.size; rw [eb21] at z_B0_b21
 replace B0 := Below.next B0 hb23; replace O := O.below hb23; replace rb1 := row_next rb1 hb23; replace rb4 := row_next rb4 hb23; replace rb18 := row_next rb18 hb23
 revert A; refine vW (vS (vR (vl3 (rowq rb21) (h:=?_))))
 have lf_b1 := row_lt rb1
 have lf_b4 := row_lt rb4
 have lf_b18 := row_lt rb18
 have lf_b21 := row_lt rb21
 obtain ⟨gL, e1, e2, e3, e4, e5⟩ := O.rowL (c := b1) (by omega) (by omega)
 have hL12 : b18 ≠ gL := by rcases e5 with ⟨e, a, ha⟩ | e; (have g1 := lgl a ha; have g2 := O.el a ha; omega); omega
 have hL13 : b21 ≠ gL := by rcases e5 with ⟨e, a, ha⟩ | e; (have g1 := lgl a ha; have g2 := O.el a ha; omega); omega
 have hL8 : b4 ≠ gL := by rcases e5 with ⟨e, _⟩ | e <;> omega
 have hLw : w.heap.size ≤ gL := by rcases e5 with ⟨e, _⟩ | e <;> omega
 obtain ⟨gV, v1, v2, v3, v4, v5⟩ := O.rowV (c := b21) (aw10 _ (by omega)).toP (by omega) (by omega)
 have hVL : gV ≠ gL := by
  rcases v5 with ⟨e, _⟩ | e
  ·rcases e5 with ⟨e', _⟩ | e'
   ·have := O.lv; omega
   omega
  omega
 have hV12 : b18 ≠ gV := by rcases v5 with ⟨e, a, ha⟩ | e; (have g1 := lgv a ha; have g2 := v1 a ha; omega); omega
 have hV8 : b4 ≠ gV := by rcases v5 with ⟨e, _⟩ | e <;> omega
 have hVw : w.heap.size ≤ gV := by rcases v5 with ⟨e, _⟩ | e <;> omega
 have hVle : gV ≤ b21 := by rcases v5 with ⟨e, a, ha⟩ | e; (have g1 := lgv a ha; have g2 := v1 a ha; omega); omega
 have hMn : MnOk y.hp := by rw [ey]; exact hM.mn
 have hZs : ZsOk y.hp := by rw [ey]; exact hM.zs
 have hls : LssOk y.hp := by rw [ey]; exact hM.ls
 have hcp : y.hp.cpus ≤ 4 := by rw [ey]; exact hM.cpus.2
 have hTW := hT.below B0
 have hBp : 0 < B := by have := hT.pos; omega
 have hq := pFind_c _ B gz gL b18 y cpu o fl rb18 O.hz O.ol e1 e2 (aw10L _ (by omega)) (by omega) hL12 e3 e4 (by omega) hTW hMn hZs hls hcp (fun l hl => (O.loff l hl).2.2) hf.1 ho hBp
 intro A f
 rcases hr1 : findH y.hp cpu o fl with _ | ⟨G, p⟩
 ·skip
  rw [hr1] at hq
  refine l_call f rfl rfl rfl (IsCall.mk' (cap := []) rfl rfl rfl) (pl rfl) hq ?_
  clear f A; rintro _ W24 ⟨rfl, hgot⟩; refine ⟨_, rfl, ?_⟩; intro A f
  clear hq
  have hb25 : Below W22.heap.size W22 W24 := by rcases hgot with h | h; (exact h.2); exact absurd rfl h.1
  clear hgot
  replace B0 := Below.next B0 hb25; replace O := O.below hb25; replace rb1 := row_next rb1 hb25; replace rb4 := row_next rb4 hb25; replace rb18 := row_next rb18 hb25; replace rb21 := row_next rb21 hb25
  revert A; refine vlm (h:=vle (h:=vle (h:=vla (h:=vla (h:=vW (vS (vS (vR (vlm (h:=vln (h:=vW (vC (h:=vS (vS (vR ?_)))))))))))))))
  have ld_b1 := row_lt rb1
  have ld_b4 := row_lt rb4
  have ld_b18 := row_lt rb18
  have ld_b21 := row_lt rb21
  have hsD := B0.size
  intro A f
  refine l_call f rfl rfl rfl (IsCall.mk' (cap := []) rfl rfl rfl) (pl rfl) (pdrainF_ok _ B gz b18 y rb18 O.hz (by omega) (aw10 _ (by omega)) (by rw [ey]; exact hM.canBacks.1)) ?_
  clear f A
  rintro _ W26 ⟨rfl, zsD, hzsD, HYD, rD, hbuD, hafD⟩
  refine ⟨_, rfl, ?_⟩
  intro A f
  have hexD : Ex (fun k => k = gz ∨ k = b18) _ _ := Ex.of_bu2 hbuD (.inl rfl) (.inr rfl)
  have hszD := hexD.size
  have ovD := owns_ex O.ov hexD (fun a ha => by have g1 := v1 a ha; have g2 := lgv a ha; rintro (e | e) <;> omega)
  replace B0 := B0.trans (hexD.belowB (fun k hk => by rcases hk with e | e <;> omega) (by omega))
  replace rb1 := hexD.row rb1 (by rintro (e | e) <;> omega)
  replace rb4 := hexD.row rb4 (by rintro (e | e) <;> omega)
  replace rb21 := hexD.row rb21 (by rintro (e | e) <;> omega)
  revert A; refine vla (h:=vW (vS (vR (vlm (h:=vlb (y_neq rfl rfl rfl) (h:=?_) (g:=?_))))))
  ·intro c27; exfalso; omega
  intro c27
  refine vW (vD (h:=vK (vT (vR (vl3 (rowq rb21) (h:=?_))))))
  have lg_b1 := row_lt rb1
  have lg_b4 := row_lt rb4
  have lg_b21 := row_lt rb21
  have lg_b18 := row_lt rD
  have hTW2 := hT.below B0
  have hhp1 : (y.withZ zsD).noLists.hp = emptyH y.hp := by show ({ (y.withZ zsD).hp with lists := [] } : Hp) = _; rw [hzsD]; rfl
  intro A f
  have hAF := hafD b1 (by omega) ⟨(O.away (by omega)).f, (O.away (by omega)).t⟩
  have hAF12 := hafD b18 (by omega) ⟨(aw10 _ (by omega)).f, (aw10 _ (by omega)).t⟩
  have hAFV := hafD gV (by omega) ⟨v2.f, v2.t⟩
  have alE : AwayL b1 (y.withZ zsD).noLists := ⟨fun _ a ha => by have ha' : y.zo = some a := ha; rw [O.ez] at ha'; cases ha'; dsimp only; omega, hAF.f, hAF.t, (O.awayLow (by omega)).m, fun l hl => (by cases hl), (O.awayLow (by omega)).v⟩
  have ahE : AwayL b18 (y.withZ zsD).noLists := ⟨fun _ a ha => by have ha' : y.zo = some a := ha; rw [O.ez] at ha'; cases ha'; dsimp only; omega, hAF12.f, hAF12.t, (aw10L _ (by omega)).m, fun l hl => (by cases hl), (aw10L _ (by omega)).v⟩
  have v2E : AwayP gV (y.withZ zsD).noLists := ⟨hAFV.f, hAFV.t, v2.m, fun h0 => absurd h0 (Nat.lt_irrefl 0), fun l hl => (by cases hl)⟩
  have hMnE : MnOk (y.withZ zsD).noLists.hp := ⟨hMn.n, hMn.a, hMn.b⟩
  have hZsE : ZsOk (y.withZ zsD).noLists.hp := by rw [hhp1, ey]; exact emptyH_zs hM
  have hlsE : LssOk (y.withZ zsD).noLists.hp := by rw [hhp1]; exact emptyH_ls _
  have hq := pFind_c _ B gz b1 b18 (y.withZ zsD).noLists cpu o fl rD HYD (World.ownsRow_nil _ _ _ _) (fun a ha => by cases ha) alE ahE (by omega) (by omega) (by omega) (by omega) (by omega) hTW2 hMnE hZsE hlsE hcp (fun l hl => by cases hl) hf.1 ho hBp
  rw [hhp1] at hq
  rcases hr2 : findH (emptyH y.hp) cpu o fl with _ | ⟨G, p⟩
  ·skip
   rw [hr2] at hq
   refine l_call f rfl rfl rfl (IsCall.mk' (cap := []) rfl rfl rfl) (pl rfl) hq ?_
   clear f A; rintro _ W28 ⟨rfl, hgot⟩; refine ⟨_, rfl, ?_⟩; intro A f
   clear hq
   have hb29 : Below W26.heap.size W26 W28 := by rcases hgot with h | h; (exact h.2); exact absurd rfl h.1
   clear hgot
   replace B0 := Below.next B0 hb29; replace HYD := HYD.below hb29; replace rb1 := row_next rb1 hb29; replace rb4 := row_next rb4 hb29; replace rb21 := row_next rb21 hb29; replace rD := row_next rD hb29; replace ovD := owns_below ovD hb29 (Nat.le_refl _)
   revert A; refine vlm (h:=vle (h:=vle (h:=vla (h:=vla (h:=vW (vS (vS (vR (vlm (h:=vln (h:=vW (vC (h:=vS (vR (vld (y_build #[.slice none 0 0, .slice none 0 0, .int .i64 0, .slice none 0 0, .slice none 0 0] rfl rfl (by kernel_rfl)) (h:=?_)))))))))))))))); intro A f
   refine vls f rb4 ?_
   clear rb4; intro W30 hb31 rb4; dsimp only [setL, over, Value.cells] at rb4; replace B0 := Below.thenBut B0 hb31 (by omega); replace rb1 := But.row hb31 rb1 (by omega); replace rb21 := But.row hb31 rb21 (by omega); replace rD := But.row hb31 rD (by omega)
   revert A; refine vla (h:=vla (h:=vW (vE (vF ?_)))); intro A f
   refine x_retc2 f rfl rfl rfl rfl (ag rfl) rb4 rfl ?_
   have hfd : find2H x.hp cpu o fl = none := by rw [← ey, find2_two hr1]; exact hr2
   exact ⟨.inl ⟨hfd, rfl⟩, B0⟩
  skip
  rw [hr2] at hq
  refine l_call f rfl rfl rfl (IsCall.mk' (cap := []) rfl rfl rfl) (pl rfl) hq ?_
  clear f A; rintro _ W32 ⟨rfl, hgot⟩; refine ⟨_, rfl, ?_⟩; intro A f
  clear hq
  rcases hgot with ⟨h, _⟩ | ⟨_, zs, ls, lo, ln, lc, rh2, hAt2, hhp2, hex, haw⟩
  ·cases h
  have hfr := fun (b : Nat) (hbw : b < w.heap.size) => haw b (by omega) (by omega) ⟨(hafD _ (by omega) ⟨(O.away (b := b) (by omega)).f, (O.away (b := b) (by omega)).t⟩).f, (hafD _ (by omega) ⟨(O.away (b := b) (by omega)).f, (O.away (b := b) (by omega)).t⟩).t, (O.away (b := b) (by omega)).m, fun h0 => absurd h0 (Nat.lt_irrefl 0), fun l hl => (by cases hl)⟩
  have hexs := hex.size
  have haw8 := haw b4 (by omega) (by omega) ⟨(hafD _ (by omega) ⟨(O.away (b := b4) (by omega)).f, (O.away (b := b4) (by omega)).t⟩).f, (hafD _ (by omega) ⟨(O.away (b := b4) (by omega)).f, (O.away (b := b4) (by omega)).t⟩).t, (O.away (b := b4) (by omega)).m, fun h0 => absurd h0 (Nat.lt_irrefl 0), fun l hl => (by cases hl)⟩
  have hawV := haw gV (by omega) (by rcases v5 with ⟨e, _⟩ | e <;> omega) v2E
  have haw12 := haw b18 (by omega) (by omega) ⟨ahE.f, ahE.t, ahE.m, fun h0 => absurd h0 (Nat.lt_irrefl 0), fun l hl => (by cases hl)⟩
  have ov2 := owns_ex ovD hex (fun a ha => by have := v1 a ha; rintro (e | e | e) <;> omega)
  replace B0 := B0.trans (hex.belowB (fun k hk => by rcases hk with e | e | e <;> omega) (by omega))
  replace rb4 := hex.row rb4 (by rintro (e | e | e) <;> omega)
  replace rb21 := hex.row rb21 (by rintro (e | e | e) <;> omega)
  revert A; refine vlm (h:=vle (h:=vle (h:=vla (h:=vla (h:=vW (vS (vS (vR (vlm (h:=vln (h:=vW (vD (h:=vK (vT (vS (vR ?_))))))))))))))))
  have hez := O.ez
  intro A f
  clear O
  revert A; refine vlm (h:=vlm (h:=vl3 (rowq rb21) (h:=vlc (rqType_c _ cpu o fl hf.1) (h:=?_)))); intro W35 hb34; replace B0 := Below.next B0 hb34; replace hAt2 := hAt2.below hb34; replace rb4 := row_next rb4 hb34; replace rb21 := row_next rb21 hb34; replace rh2 := row_next rh2 hb34; replace ov2 := owns_below ov2 hb34 (Nat.le_refl _)
  refine vld (y_build #[.int .i64 p, .int .i64 o, .int .i64 (typeF fl)] rfl rfl (by kernel_rfl)) (h:=?_)
  have hlz := row_lt rh2
  have hl8 := row_lt rb4
  have hl13 := row_lt rb21
  have hsz2 := B0.size
  intro A f
  refine l_call f rfl rfl rfl (IsCall.mk' (cap := []) rfl rfl rfl) (pl rfl) (pAddLive_c _ B gV b18 (((y.withZ zsD).noLists.withZ zs).withL ls lo ln lc) ⟨p, o, typeF fl⟩ rh2 hAt2 ov2 v1 hawV haw12 (fun a ha => by have ha' : y.zo = some a := ha; rw [hez] at ha'; cases ha'; exact v3) (fun a ha => by have ha' : y.zo = some a := ha; rw [hez] at ha'; cases ha'; dsimp only; omega) hV12 (by show y.vn ≤ 256; omega) (by omega) (by omega)) ?_
  clear f A
  rintro _ W36 ⟨rfl, vo3, vc3, rh3, hAt3, hbu3, hvo3⟩
  refine ⟨_, rfl, ?_⟩
  intro A f
  have hex3 : Ex (fun k => k = b18 ∨ k = gV) _ _ := Ex.of_bu2 hbu3 (.inl rfl) (.inr rfl)
  replace rb4 := hex3.row rb4 (by rintro (e | e) <;> omega)
  replace B0 := B0.trans (hex3.belowB (fun k hk => by rcases hk with e | e <;> omega) (by omega))
  have aw8 : Away b4 ((((y.withZ zsD).noLists.withZ zs).withL ls lo ln lc).withB (addB (((y.withZ zsD).noLists.withZ zs).withL ls lo ln lc).live ⟨p, o, typeF fl⟩) vo3 (y.vn + 1) vc3) := ⟨haw8.f, haw8.t, haw8.m, haw8.l, haw8.p, fun _ a ha => by rcases hvo3 a ha with e | e <;> omega⟩
  have hfr3 : FreshH w.heap.size ((((y.withZ zsD).noLists.withZ zs).withL ls lo ln lc).withB (addB (((y.withZ zsD).noLists.withZ zs).withL ls lo ln lc).live ⟨p, o, typeF fl⟩) vo3 (y.vn + 1) vc3) := fun b hbw => ⟨⟨(hfr b hbw).f, (hfr b hbw).t, (hfr b hbw).m, (hfr b hbw).l, (hfr b hbw).p, fun _ a ha => by rcases hvo3 a ha with e | e <;> omega⟩, fun c hc => by have hc2 : y.zo = some c := hc; rw [hez] at hc2; cases hc2; dsimp only; omega⟩
  revert A; refine vW (vS (vR (vl5 (rowq rh3) (h:=vlm (h:=?_))))); intro A f
  refine vls f rb4 ?_
  clear rb4; intro W37 hb38 rb4; dsimp only [setL, over, Value.cells] at rb4; replace B0 := Below.thenBut B0 hb38 (by omega); replace rh3 := But.row hb38 rh3 (by omega); replace hAt3 := at_butA hAt3 hb38 aw8 (fun c hc => by have hc' : y.zo = some c := hc; rw [hez] at hc'; cases hc'; dsimp only; omega)
  revert A; refine vla (h:=vla (h:=vW (vE ?_))); intro A f
  refine x_retc2 f rfl rfl rfl rfl (ag rfl) rb4 rfl ?_
  have hfd : find2H x.hp cpu o fl = some (G, p) := by rw [← ey, find2_two hr1]; exact hr2
  refine ⟨.inr ⟨_, G, p, hfd, rfl, hAt3, ?_, hfr3⟩, B0⟩
  show ({ (((y.withZ zsD).noLists.withZ zs).withL ls lo ln lc).hp with live := addB (((y.withZ zsD).noLists.withZ zs).withL ls lo ln lc).hp.live ⟨p, o, typeF fl⟩ } : Hp) = _
  rw [hhp2]
  rfl
 skip
 rw [hr1] at hq
 refine l_call f rfl rfl rfl (IsCall.mk' (cap := []) rfl rfl rfl) (pl rfl) hq ?_
 clear f A; rintro _ W39 ⟨rfl, hgot⟩; refine ⟨_, rfl, ?_⟩; intro A f
 clear hq
 rcases hgot with ⟨h, _⟩ | ⟨_, zs, ls, lo, ln, lc, rh2, hAt2, hhp2, hex, haw⟩
 ·cases h
 have hfr := fun (b : Nat) (hbw : b < w.heap.size) => haw b (by omega) (by omega) (O.away (by omega)).toP
 have hexs := hex.size
 have haw8 := haw b4 (by omega) (by omega) (O.away (by omega)).toP
 have hawV := haw gV (by omega) hVL v2
 have haw12 := haw b18 (by omega) (by omega) (aw10 _ (by omega)).toP
 have ov2 := owns_ex O.ov hex (fun a ha => by have := v1 a ha; rintro (e | e | e) <;> omega)
 replace B0 := B0.trans (hex.belowB (fun k hk => by rcases hk with e | e | e <;> omega) (by omega))
 replace rb4 := hex.row rb4 (by rintro (e | e | e) <;> omega)
 replace rb21 := hex.row rb21 (by rintro (e | e | e) <;> omega)
 revert A; refine vlm (h:=vle (h:=vle (h:=vla (h:=vla (h:=vW (vS (vS (vR (vlm (h:=vln (h:=vW (vD (h:=vK (vT (vS (vS (vR (vlm (h:=vln (h:=vW (vD (h:=vK (vT (vS (vR ?_)))))))))))))))))))))))))
 have hez := O.ez
 intro A f
 clear O
 revert A; refine vlm (h:=vlm (h:=vl3 (rowq rb21) (h:=vlc (rqType_c _ cpu o fl hf.1) (h:=?_)))); intro W42 hb41; replace B0 := Below.next B0 hb41; replace hAt2 := hAt2.below hb41; replace rb4 := row_next rb4 hb41; replace rb21 := row_next rb21 hb41; replace rh2 := row_next rh2 hb41; replace ov2 := owns_below ov2 hb41 (Nat.le_refl _)
 refine vld (y_build #[.int .i64 p, .int .i64 o, .int .i64 (typeF fl)] rfl rfl (by kernel_rfl)) (h:=?_)
 have hlz := row_lt rh2
 have hl8 := row_lt rb4
 have hl13 := row_lt rb21
 have hsz2 := B0.size
 intro A f
 refine l_call f rfl rfl rfl (IsCall.mk' (cap := []) rfl rfl rfl) (pl rfl) (pAddLive_c _ B gV b18 ((y.withZ zs).withL ls lo ln lc) ⟨p, o, typeF fl⟩ rh2 hAt2 ov2 v1 hawV haw12 (fun a ha => by have ha' : y.zo = some a := ha; rw [hez] at ha'; cases ha'; exact v3) (fun a ha => by have ha' : y.zo = some a := ha; rw [hez] at ha'; cases ha'; dsimp only; omega) hV12 (by show y.vn ≤ 256; omega) (by omega) (by omega)) ?_
 clear f A
 rintro _ W43 ⟨rfl, vo3, vc3, rh3, hAt3, hbu3, hvo3⟩
 refine ⟨_, rfl, ?_⟩
 intro A f
 have hex3 : Ex (fun k => k = b18 ∨ k = gV) _ _ := Ex.of_bu2 hbu3 (.inl rfl) (.inr rfl)
 replace rb4 := hex3.row rb4 (by rintro (e | e) <;> omega)
 replace B0 := B0.trans (hex3.belowB (fun k hk => by rcases hk with e | e <;> omega) (by omega))
 have aw8 : Away b4 (((y.withZ zs).withL ls lo ln lc).withB (addB ((y.withZ zs).withL ls lo ln lc).live ⟨p, o, typeF fl⟩) vo3 (y.vn + 1) vc3) := ⟨haw8.f, haw8.t, haw8.m, haw8.l, haw8.p, fun _ a ha => by rcases hvo3 a ha with e | e <;> omega⟩
 have hfr3 : FreshH w.heap.size (((y.withZ zs).withL ls lo ln lc).withB (addB ((y.withZ zs).withL ls lo ln lc).live ⟨p, o, typeF fl⟩) vo3 (y.vn + 1) vc3) := fun b hbw => ⟨⟨(hfr b hbw).f, (hfr b hbw).t, (hfr b hbw).m, (hfr b hbw).l, (hfr b hbw).p, fun _ a ha => by rcases hvo3 a ha with e | e <;> omega⟩, fun c hc => by have hc2 : y.zo = some c := hc; rw [hez] at hc2; cases hc2; dsimp only; omega⟩
 revert A; refine vW (vS (vR (vl5 (rowq rh3) (h:=vlm (h:=?_))))); intro A f
 refine vls f rb4 ?_
 clear rb4; intro W44 hb45 rb4; dsimp only [setL, over, Value.cells] at rb4; replace B0 := Below.thenBut B0 hb45 (by omega); replace rh3 := But.row hb45 rh3 (by omega); replace hAt3 := at_butA hAt3 hb45 aw8 (fun c hc => by have hc' : y.zo = some c := hc; rw [hez] at hc'; cases hc'; dsimp only; omega)
 revert A; refine vla (h:=vla (h:=vW (vE ?_))); intro A f
 refine x_retc2 f rfl rfl rfl rfl (ag rfl) rb4 rfl ?_
 have hfd : find2H x.hp cpu o fl = some (G, p) := by rw [← ey]; exact find2_one hr1
 refine ⟨.inr ⟨_, G, p, hfd, rfl, hAt3, ?_, hfr3⟩, B0⟩
 show ({ ((y.withZ zs).withL ls lo ln lc).hp with live := addB ((y.withZ zs).withL ls lo ln lc).hp.live ⟨p, o, typeF fl⟩ } : Hp) = _
 rw [hhp2]
 rfl
theorem bDel_all (w : World) (base n cap i : Nat) (lo : Option Addr) (l : List Bk) (hi : i < n) (hn : n ≤ 300) (own : w.ownsRow base 45 3 (.slice lo n cap) n (bvals l)) :
    Calls Tryz.prog 13 #[.slice lo n cap, .int .i64 i, .int .i64 ((i : Int) + 1)] w fun e w' => ∃ g, lo = some ⟨g, 0, none⟩ ∧ e = .returned (.slice lo (n - 1 : Nat) cap) ∧
     w'.ownsRow base 45 3 (.slice lo (n - 1) cap) (n - 1) (bvals (l.eraseIdx i)) ∧ But g w w' := by
 obtain ⟨N, rfl⟩ : ∃ N, n = N + 1 := ⟨n - 1, by omega⟩
 rcases own.2 with ⟨_, e2⟩ | ⟨g, cap', cur, e1, _⟩
 ·omega
 simp only [Value.slice.injEq] at e1
 obtain ⟨rfl, _, _⟩ := e1
 refine (bDel_any w base g N cap i l (by omega) (by omega) own).mono ?_
 rintro e w' ⟨rfl, h1, h2⟩
 exact ⟨g, rfl, rfl, h1, h2⟩
def Kit.Hx.withV (y : Hx) (l : List Bk) (n : Nat) : Hx := { y with live := l, vn := n }
theorem HOwn.withV {w w' : World} {B gz gl gv : Nat} {y : Hx} (h : HOwn w B gz gl gv y) (hb : But gv w w') {l : List Bk} {n : Nat} (ov : w'.ownsRow B 45 3 (.slice y.vo n y.vc) n (bvals l)) (hr : n * 24 ≤ 140737488351232) : HOwn w' B gz gl gv (y.withV l n) := by
 refine ⟨owns_butN h.oz hb (fun a ha => by have ha' : y.zo = some a := ha; rw [h.ez] at ha'; cases ha'; exact h.zv), owns_butN h.ol hb (fun a ha => by rw [h.el a ha]; exact h.lv), ov, h.ez, h.el, h.ev, ?_, h.zl, h.zv, h.lv, h.zoff, h.loff, h.moff, h.mfresh, h.gzB, h.glB, h.gvB⟩
 refine ⟨zons_but h.at_.zones hb (fun _ a ha => by have ha' : y.zo = some a := ha; rw [h.ez] at ha'; cases ha'; exact h.zv) (fun z hz _ a ha => ((h.zoff z hz).1 a ha).2.2) (fun z hz _ a ha => ((h.zoff z hz).2.1 a ha).2.2), nums_but h.at_.mins hb (fun _ a ha => (h.moff a ha).2.2), ⟨h.at_.lists.len, h.at_.lists.reach, ?_, fun l hl => nums_but (h.at_.lists.at_ l hl) hb (fun _ a ha => ((h.loff l hl).1 a ha).2.2)⟩, ⟨bowns_len ov, hr, blks_of_owns ov⟩⟩
 exact h.at_.lists.cells.but hb (fun a ha => by rw [h.el a ha]; exact h.lv)
theorem pFreeF_c (w : World) (b : Bk) (g : Nat) (p : Int) (hq : St w ⟨g, 0, none⟩ (.int .i64 p)) :
    Calls Tryz.prog 25 #[.agg #[.int .i64 b.a, .int .i64 b.o, .int .i64 b.t], .pointer (some ⟨g, 0, none⟩)] w fun e w' => e = .returned (.bool (decide (b.a = p))) ∧ Below w.heap.size w w' := by
 have B0 := Below.refl w.heap.size w
 refine sx_enter (args := [_, _]) 8 Tryz.func25 rfl rfl rfl ?_
 refine vS (vR ?_); intro A f
 refine l_box f rfl rfl rfl rfl rfl ?_; clear f A; intro b1 W2 eb1 hb3 rb1 A f; dsimp only [Value.cells] at rb1
 have z_B0_b1 := B0.size; rw [eb1] at z_B0_b1
 replace B0 := Below.next B0 hb3
 revert A; refine vla (h:=vW (vS (vR (vlf (h:=vl1 (rowq rb1) (h:=vld (y_load1 rfl rfl (ag rfl) (St.q hq B0)) (h:=vld (y_eql rfl rfl rfl) (h:=vla (h:=vW (vE ?_)))))))))); intro A f
 refine x_ret1 f rfl rfl ?_
 exact ⟨rfl, B0⟩
theorem freeIdx (w : World) (vo : Option Addr) (vn vc g : Nat) (l : List Bk) (p : Int) (hb : Blks w vo vn l) (hq : St w ⟨g, 0, none⟩ (.int .i64 p)) :
    Calls Tryz.prog 24 #[.slice vo vn vc, .func (.func 25) #[] #[.pointer (some ⟨g, 0, none⟩)]] w fun e w' => FoundAt e l (fun b => decide (b.a = p)) ∧ Below w.heap.size w w' :=
 bIndex_any w 25 #[.pointer (some ⟨g, 0, none⟩)] vo vn vc l _ hb (fun args W => pl rfl args W) (fun i _ W hW => pFreeF_c W (l.getD i .zero) g p (fun wx hx => hq wx (Below.next hW hx)))
theorem pFree_no1 (w : World) (x : Hx) (cpu p : Int) (hx : x.At w) (hM : HMay x.hp) (hc : ¬ (0 ≤ cpu ∧ cpu ≤ x.cpus - 1)) :
    Calls Tryz.prog 8 #[.agg #[.slice x.zo x.zn x.zc, .slice x.mo x.mn x.mc, .int .i64 x.cpus, .slice x.lo x.ln x.lc, .slice x.vo x.vn x.vc], .int .i64 cpu, .int .i64 p] w fun e w' => e = .returned (.tuple #[.agg #[.slice none 0 0, .slice none 0 0, .int .i64 0, .slice none 0 0, .slice none 0 0], .int .i64 1]) ∧ Below w.heap.size w w' := by
 have HC : ∀ W, x.At W → Calls Tryz.prog 15 #[.agg #[.slice x.zo x.zn x.zc, .slice x.mo x.mn x.mc, .int .i64 x.cpus, .slice x.lo x.ln x.lc, .slice x.vo x.vn x.vc]] W fun e w' => e = .returned (.int .i64 0) ∧ Below W.heap.size W w' := fun W hW => (pCheck_any W x hW).mono fun e w1 h1 => by
  obtain ⟨⟨c, rfl, hc⟩, hb⟩ := h1
  rcases hc with ⟨rfl, _⟩ | ⟨_, hn⟩
  ·exact ⟨rfl, hb⟩
  exact absurd hM hn
 have B0 := Below.refl w.heap.size w
 refine sx_enter (args := [_, _, _]) 51 Tryz.func8 rfl rfl rfl ?_
 refine vS (vR ?_); intro A f
 refine l_box f rfl rfl rfl rfl rfl ?_; clear f A; intro b1 W2 eb1 hb3 rb1 A f; dsimp only [Value.cells] at rb1
 have z_B0_b1 := B0.size; rw [eb1] at z_B0_b1
 replace B0 := Below.next B0 hb3
 refine l_box f rfl rfl rfl rfl rfl ?_; clear f A; intro b4 W5 eb4 hb6 rb4 A f; dsimp only [Value.cells] at rb4
 have o_b1_b4 : b1 < b4 := by have := row_lt rb1; omega
 have z_B0_b4 := B0.size; rw [eb4] at z_B0_b4
 replace B0 := Below.next B0 hb6; replace rb1 := row_next rb1 hb6
 refine l_alloc (z := .agg #[.slice none 0 0, .slice none 0 0, .int .i64 0, .slice none 0 0, .slice none 0 0]) f rfl rfl rfl rfl (by kernel_rfl) ?_; clear f A; intro b7 W8 eb7 hb9 rb7 A f; dsimp only [Value.cells] at rb7
 have o_b1_b7 : b1 < b7 := by have := row_lt rb1; omega
 have o_b4_b7 : b4 < b7 := by have := row_lt rb4; omega
 have z_B0_b7 := B0.size; rw [eb7] at z_B0_b7
 replace B0 := Below.next B0 hb9; replace rb1 := row_next rb1 hb9; replace rb4 := row_next rb4 hb9
 revert A; refine vla (h:=vW (vS (vS (vR (vl5 (rowq rb1) (h:=vlc (HC _ (hx.below B0)) (h:=?_))))))); intro W11 hb10; replace B0 := Below.next B0 hb10; replace rb1 := row_next rb1 hb10; replace rb4 := row_next rb4 hb10; replace rb7 := row_next rb7 hb10
 refine vla (h:=vW (vS (vR (vlm (h:=vlb (y_neq rfl rfl rfl) (h:=?_) (g:=?_))))))
 ·intro c12; exfalso; omega
 intro c12
 refine vW (vD (h:=vK (vT (vS (vS (vR (vl5 (rowq rb1) (h:=vlm (h:=vlc (by have e := pIsCpu_any W11 (.slice x.zo x.zn x.zc) (.slice x.mo x.mn x.mc) (.slice x.lo x.ln x.lc) (.slice x.vo x.vn x.vc) x.cpus cpu; rw [inB_f hc] at e; exact e) (h:=?_)))))))))); intro W13 hb14; replace B0 := Below.next B0 hb14; replace rb1 := row_next rb1 hb14; replace rb4 := row_next rb4 hb14; replace rb7 := row_next rb7 hb14
 refine vln (h:=vW (vC (h:=vS (vR (vld (y_build #[.slice none 0 0, .slice none 0 0, .int .i64 0, .slice none 0 0, .slice none 0 0] rfl rfl (by kernel_rfl)) (h:=?_)))))); intro A f
 refine vls f rb7 ?_
 clear rb7; intro W15 hb16 rb7; dsimp only [setL, over, Value.cells] at rb7; replace B0 := Below.thenBut B0 hb16 (by omega); replace rb1 := But.row hb16 rb1 (by omega); replace rb4 := But.row hb16 rb4 (by omega)
 revert A; refine vla (h:=vW (vE (vF ?_))); intro A f
 refine x_retc1 f rfl rfl rfl (ag rfl) rb7 rfl ?_
 exact ⟨rfl, B0⟩
theorem pFree_no4 (w : World) (x : Hx) (cpu p : Int) (hx : x.At w) (hM : HMay x.hp) (hc : 0 ≤ cpu ∧ cpu ≤ x.cpus - 1) (hno : ∀ k, k < x.live.length → (x.live.getD k .zero).a ≠ p) :
    Calls Tryz.prog 8 #[.agg #[.slice x.zo x.zn x.zc, .slice x.mo x.mn x.mc, .int .i64 x.cpus, .slice x.lo x.ln x.lc, .slice x.vo x.vn x.vc], .int .i64 cpu, .int .i64 p] w fun e w' => e = .returned (.tuple #[.agg #[.slice none 0 0, .slice none 0 0, .int .i64 0, .slice none 0 0, .slice none 0 0], .int .i64 4]) ∧ Below w.heap.size w w' := by
 have HC : ∀ W, x.At W → Calls Tryz.prog 15 #[.agg #[.slice x.zo x.zn x.zc, .slice x.mo x.mn x.mc, .int .i64 x.cpus, .slice x.lo x.ln x.lc, .slice x.vo x.vn x.vc]] W fun e w' => e = .returned (.int .i64 0) ∧ Below W.heap.size W w' := fun W hW => (pCheck_any W x hW).mono fun e w1 h1 => by
  obtain ⟨⟨c, rfl, hc⟩, hb⟩ := h1
  rcases hc with ⟨rfl, _⟩ | ⟨_, hn⟩
  ·exact ⟨rfl, hb⟩
  exact absurd hM hn
 have HIx : ∀ (g : Nat) W, x.At W → St W ⟨g, 0, none⟩ (.int .i64 p) → Calls Tryz.prog 24 #[.slice x.vo x.vn x.vc, .func (.func 25) #[] #[.pointer (some ⟨g, 0, none⟩)]] W fun e w' => e = .returned (.int .i64 (-1)) ∧ Below W.heap.size W w' := fun g W hW hq => (freeIdx W x.vo x.vn x.vc g x.live p hW.live hq).mono fun e w1 h1 => by
  obtain ⟨h2, hb⟩ := h1
  refine ⟨?_, hb⟩
  rcases h2 with ⟨k, hk, rfl, h3, h4⟩ | ⟨rfl, h3⟩
  ·exact absurd (of_decide_eq_true h3) (hno k hk)
  rfl
 have B0 := Below.refl w.heap.size w
 refine sx_enter (args := [_, _, _]) 51 Tryz.func8 rfl rfl rfl ?_
 refine vS (vR ?_); intro A f
 refine l_box f rfl rfl rfl rfl rfl ?_; clear f A; intro b1 W2 eb1 hb3 rb1 A f; dsimp only [Value.cells] at rb1
 have z_B0_b1 := B0.size; rw [eb1] at z_B0_b1
 replace B0 := Below.next B0 hb3
 refine l_box f rfl rfl rfl rfl rfl ?_; clear f A; intro b4 W5 eb4 hb6 rb4 A f; dsimp only [Value.cells] at rb4
 have o_b1_b4 : b1 < b4 := by have := row_lt rb1; omega
 have z_B0_b4 := B0.size; rw [eb4] at z_B0_b4
 replace B0 := Below.next B0 hb6; replace rb1 := row_next rb1 hb6
 refine l_alloc (z := .agg #[.slice none 0 0, .slice none 0 0, .int .i64 0, .slice none 0 0, .slice none 0 0]) f rfl rfl rfl rfl (by kernel_rfl) ?_; clear f A; intro b7 W8 eb7 hb9 rb7 A f; dsimp only [Value.cells] at rb7
 have o_b1_b7 : b1 < b7 := by have := row_lt rb1; omega
 have o_b4_b7 : b4 < b7 := by have := row_lt rb4; omega
 have z_B0_b7 := B0.size; rw [eb7] at z_B0_b7
 replace B0 := Below.next B0 hb9; replace rb1 := row_next rb1 hb9; replace rb4 := row_next rb4 hb9
 revert A; refine vla (h:=vW (vS (vS (vR (vl5 (rowq rb1) (h:=vlc (HC _ (hx.below B0)) (h:=?_))))))); intro W11 hb10; replace B0 := Below.next B0 hb10; replace rb1 := row_next rb1 hb10; replace rb4 := row_next rb4 hb10; replace rb7 := row_next rb7 hb10
 refine vla (h:=vW (vS (vR (vlm (h:=vlb (y_neq rfl rfl rfl) (h:=?_) (g:=?_))))))
 ·intro c12; exfalso; omega
 intro c12
 refine vW (vD (h:=vK (vT (vS (vS (vR (vl5 (rowq rb1) (h:=vlm (h:=vlc (by have e := pIsCpu_any W11 (.slice x.zo x.zn x.zc) (.slice x.mo x.mn x.mc) (.slice x.lo x.ln x.lc) (.slice x.vo x.vn x.vc) x.cpus cpu; rw [inB_t hc] at e; exact e) (h:=?_)))))))))); intro W13 hb14; replace B0 := Below.next B0 hb14; replace rb1 := row_next rb1 hb14; replace rb4 := row_next rb4 hb14; replace rb7 := row_next rb7 hb14
 refine vln (h:=vW (vD (h:=vK (vT (vS (vR (vlf (h:=vl1 (rowq rb1) (h:=vld (y_func rfl rfl) (h:=?_))))))))))
 have HI := HIx _ _ (hx.below B0) (St.of (by rw [cell_of_row _ _ _ _ _ _ rb4]; rfl))
 intro A f
 refine l_call f rfl rfl rfl (IsCall.mk' (cap := []) rfl rfl rfl) (pl rfl) HI ?_; clear f A; rintro _ W15 ⟨rfl, hb16⟩; refine ⟨_, rfl, ?_⟩; intro A f; replace B0 := Below.next B0 hb16; replace rb1 := row_next rb1 hb16; replace rb4 := row_next rb4 hb16; replace rb7 := row_next rb7 hb16
 revert A; refine vla (h:=vW (vS (vS (vR (vlm (h:=vlb (y_lss rfl rfl rfl) (h:=?_) (g:=?_)))))))
 ·intro c17
  refine vW (vC (h:=vS (vR (vld (y_build #[.slice none 0 0, .slice none 0 0, .int .i64 0, .slice none 0 0, .slice none 0 0] rfl rfl (by kernel_rfl)) (h:=?_))))); intro A f
  refine vls f rb7 ?_
  clear rb7; intro W18 hb19 rb7; dsimp only [setL, over, Value.cells] at rb7; replace B0 := Below.thenBut B0 hb19 (by omega); replace rb1 := But.row hb19 rb1 (by omega); replace rb4 := But.row hb19 rb4 (by omega)
  revert A; refine vla (h:=vW (vE (vF ?_))); intro A f
  refine x_retc1 f rfl rfl rfl (ag rfl) rb7 rfl ?_
  exact ⟨rfl, B0⟩
 intro c17; exfalso; omega
theorem hmid_live {x y : Hx} (h : HMid x.hp) (e : y.hp = x.hp) (l : List Bk) (n : Nat) : HMid (y.withV l n).hp := by
 rw [← e] at h
 exact ⟨⟨h.zs.n, h.zs.m0, h.zs.m1, h.zs.f0, h.zs.f1, h.zs.t1⟩, ⟨fun i hi => ⟨(h.ls.ok i hi).c, (h.ls.ok i hi).z, (h.ls.ok i hi).t, (h.ls.ok i hi).n, (h.ls.ok i hi).p⟩, h.ls.ord⟩, h.cpus, h.cnt⟩
theorem live_back {x y : Hx} (h : HMay x.hp) {n : Nat} {i : Nat} (hm : HMid (y.withV (y.live.eraseIdx i) n).hp) (e : y.hp = x.hp) (hi : i < x.live.length) {a o t : Int} (hb : x.live.getD i .zero = ⟨a, o, t⟩) : CanBack (y.withV (y.live.eraseIdx i) n).hp a o := by
 have hl := h.lv.ok i hi
 rw [show x.hp.live = x.live from rfl, hb] at hl
 have hg := fun p => cnt_ge (l := x.live) hi p
 rw [hb] at hg
 exact (backH_ok (H := (y.withV (y.live.eraseIdx i) n).hp) hm.zs (a := a) (o := o) hl.o hl.m hl.a.1 hl.a.2 (fun p => by
  have h1 := h.cntLe p
  have h2 : hit a o p ≤ Kit.cnt x.live p := hg p
  have h3 : zcnt (y.withV (y.live.eraseIdx i) n).hp p = zcnt x.hp p := by rw [← e]; rfl
  rw [h3]
  have h4 : Kit.cnt x.hp.live p = Kit.cnt x.live p := rfl
  omega)).1
theorem HOwn.but10 {w w' : World} {B gz gl gv b : Nat} {y : Hx} (h : HOwn w B gz gl gv y) (hb : But b w w') (a : AwayL b y) (h1 : gz ≠ b) (h2 : ∀ a, y.lo = some a → a.block ≠ b) (h3 : gv ≠ b) : HOwn w' B gz gl gv y :=
 ⟨owns_butN h.oz hb (fun a ha => by rw [h.ez] at ha; cases ha; exact h1), owns_butN h.ol hb h2, owns_butN h.ov hb (fun a ha => by rw [h.ev a ha]; exact h3), h.ez, h.el, h.ev,
  ⟨zons_but h.at_.zones hb a.z a.f a.t, nums_but h.at_.mins hb a.m, ⟨h.at_.lists.len, h.at_.lists.reach, h.at_.lists.cells.but hb h2, fun l hl => nums_but (h.at_.lists.at_ l hl) hb (a.p l hl)⟩, blks_but h.at_.live hb a.v⟩,
  h.zl, h.zv, h.lv, h.zoff, h.loff, h.moff, h.mfresh, h.gzB, h.glB, h.gvB⟩
theorem HOwn.liveLt {w : World} {B gz gl gv : Nat} {y : Hx} (h : HOwn w B gz gl gv y) (h0 : 0 < y.vn) : gv < w.heap.size := by
 rcases h.ov.2 with ⟨_, e2⟩ | ⟨g, cap', cur, e1, _⟩
 ·omega
 simp only [Value.slice.injEq] at e1
 have h1 := h.ev _ e1.1
 have h2 := (owns_blk h.ov _ e1.1).2.1
 omega
theorem pFree_fr (w : World) (x : Hx) (cpu p : Int) (i : Nat) (hx : x.At w) (hM : HMay x.hp) (hc : 0 ≤ cpu ∧ cpu ≤ x.cpus - 1) (hi : i < x.live.length) (hia : (x.live.getD i .zero).a = p) (hfst : ∀ k, k < i → (x.live.getD k .zero).a ≠ p) :
    Calls Tryz.prog 8 #[.agg #[.slice x.zo x.zn x.zc, .slice x.mo x.mn x.mc, .int .i64 x.cpus, .slice x.lo x.ln x.lc, .slice x.vo x.vn x.vc], .int .i64 cpu, .int .i64 p] w fun e w' => (∃ y2 : Hx, e = .returned (.tuple #[.agg #[.slice y2.zo y2.zn y2.zc, .slice y2.mo y2.mn y2.mc, .int .i64 y2.cpus, .slice y2.lo y2.ln y2.lc, .slice y2.vo y2.vn y2.vc], .int .i64 0]) ∧ y2.At w' ∧ y2.hp = releaseH { x.hp with live := x.hp.live.eraseIdx i } cpu (x.live.getD i .zero) ∧ FreshH w.heap.size y2) ∧ Below w.heap.size w w' := by
 have HC : ∀ W, x.At W → Calls Tryz.prog 15 #[.agg #[.slice x.zo x.zn x.zc, .slice x.mo x.mn x.mc, .int .i64 x.cpus, .slice x.lo x.ln x.lc, .slice x.vo x.vn x.vc]] W fun e w' => e = .returned (.int .i64 0) ∧ Below W.heap.size W w' := fun W hW => (pCheck_any W x hW).mono fun e w1 h1 => by
  obtain ⟨⟨c, rfl, hc⟩, hb⟩ := h1
  rcases hc with ⟨rfl, _⟩ | ⟨_, hn⟩
  ·exact ⟨rfl, hb⟩
  exact absurd hM hn
 have HIx : ∀ (g : Nat) W, x.At W → St W ⟨g, 0, none⟩ (.int .i64 p) → Calls Tryz.prog 24 #[.slice x.vo x.vn x.vc, .func (.func 25) #[] #[.pointer (some ⟨g, 0, none⟩)]] W fun e w' => e = .returned (.int .i64 (i : Nat)) ∧ Below W.heap.size W w' := fun g W hW hq => (freeIdx W x.vo x.vn x.vc g x.live p hW.live hq).mono fun e w1 h1 => by
  obtain ⟨h2, hb⟩ := h1
  refine ⟨?_, hb⟩
  rcases h2 with ⟨k, hk, rfl, h3, h4⟩ | ⟨rfl, h3⟩
  ·have : k = i := by
    rcases Nat.lt_trichotomy k i with g | g | g
    ·exact absurd (of_decide_eq_true h3) (hfst k g)
    ·exact g
    exact absurd hia (of_decide_eq_false (h4 i g))
   rw [this]
  exact absurd hia (of_decide_eq_false (h3 i hi))
 have hlf := live_few hM.lv
 have hxl := hx.live.len
 rw [show x.hp.live = x.live from rfl] at hlf
 have B0 := Below.refl w.heap.size w
 refine sx_enter (args := [_, _, _]) 51 Tryz.func8 rfl rfl rfl ?_
 refine vS (vR ?_); intro A f
 refine l_box f rfl rfl rfl rfl rfl ?_; clear f A; intro b1 W2 eb1 hb3 rb1 A f; dsimp only [Value.cells] at rb1
 have z_B0_b1 := B0.size; rw [eb1] at z_B0_b1
 replace B0 := Below.next B0 hb3
 refine l_box f rfl rfl rfl rfl rfl ?_; clear f A; intro b4 W5 eb4 hb6 rb4 A f; dsimp only [Value.cells] at rb4
 have o_b1_b4 : b1 < b4 := by have := row_lt rb1; omega
 have z_B0_b4 := B0.size; rw [eb4] at z_B0_b4
 replace B0 := Below.next B0 hb6; replace rb1 := row_next rb1 hb6
 refine l_alloc (z := .agg #[.slice none 0 0, .slice none 0 0, .int .i64 0, .slice none 0 0, .slice none 0 0]) f rfl rfl rfl rfl (by kernel_rfl) ?_; clear f A; intro b7 W8 eb7 hb9 rb7 A f; dsimp only [Value.cells] at rb7
 have o_b1_b7 : b1 < b7 := by have := row_lt rb1; omega
 have o_b4_b7 : b4 < b7 := by have := row_lt rb4; omega
 have z_B0_b7 := B0.size; rw [eb7] at z_B0_b7
 replace B0 := Below.next B0 hb9; replace rb1 := row_next rb1 hb9; replace rb4 := row_next rb4 hb9
 revert A; refine vla (h:=vW (vS (vS (vR (vl5 (rowq rb1) (h:=vlc (HC _ (hx.below B0)) (h:=?_))))))); intro W11 hb10; replace B0 := Below.next B0 hb10; replace rb1 := row_next rb1 hb10; replace rb4 := row_next rb4 hb10; replace rb7 := row_next rb7 hb10
 refine vla (h:=vW (vS (vR (vlm (h:=vlb (y_neq rfl rfl rfl) (h:=?_) (g:=?_))))))
 ·intro c12; exfalso; omega
 intro c12
 refine vW (vD (h:=vK (vT (vS (vS (vR (vl5 (rowq rb1) (h:=vlm (h:=vlc (by have e := pIsCpu_any W11 (.slice x.zo x.zn x.zc) (.slice x.mo x.mn x.mc) (.slice x.lo x.ln x.lc) (.slice x.vo x.vn x.vc) x.cpus cpu; rw [inB_t hc] at e; exact e) (h:=?_)))))))))); intro W13 hb14; replace B0 := Below.next B0 hb14; replace rb1 := row_next rb1 hb14; replace rb4 := row_next rb4 hb14; replace rb7 := row_next rb7 hb14
 refine vln (h:=vW (vD (h:=vK (vT (vS (vR (vlf (h:=vl1 (rowq rb1) (h:=vld (y_func rfl rfl) (h:=?_))))))))))
 have HI := HIx _ _ (hx.below B0) (St.of (by rw [cell_of_row _ _ _ _ _ _ rb4]; rfl))
 intro A f
 refine l_call f rfl rfl rfl (IsCall.mk' (cap := []) rfl rfl rfl) (pl rfl) HI ?_; clear f A; rintro _ W15 ⟨rfl, hb16⟩; refine ⟨_, rfl, ?_⟩; intro A f; replace B0 := Below.next B0 hb16; replace rb1 := row_next rb1 hb16; replace rb4 := row_next rb4 hb16; replace rb7 := row_next rb7 hb16
 revert A; refine vla (h:=vW (vS (vS (vR (vlm (h:=vlb (y_lss rfl rfl rfl) (h:=?_) (g:=?_)))))))
 ·intro c17; exfalso; omega
 intro c17
 refine vW (vD (h:=vK (vT (vS (vR (vl5 (rowq rb1) (h:=?_)))))))
 have lc_b1 := row_lt rb1
 have lc_b4 := row_lt rb4
 have lc_b7 := row_lt rb7
 obtain ⟨B, hBd⟩ : ∃ B, B = W15.heap.size := ⟨_, rfl⟩
 have hBw := B0.size
 intro A f
 refine l_call f rfl rfl rfl (IsCall.mk' (cap := []) rfl rfl rfl) (pl rfl) (pCopy_own _ x (hx.below B0)) ?_
 clear f A
 rintro _ W18 ⟨⟨gz, gl, gv, y, rfl, ey, O⟩, hb19⟩
 refine ⟨_, rfl, ?_⟩
 intro A f
 have hcs := hb19.size
 rw [← hBd] at O
 replace B0 := Below.next B0 hb19; replace rb1 := row_next rb1 hb19; replace rb4 := row_next rb4 hb19; replace rb7 := row_next rb7 hb19
 have evl : y.live = x.live := congrArg Hp.live ey
 have hvn : y.vn = x.vn := by have h1 := O.at_.live.len; have h2 := hx.live.len; rw [evl] at h1; omega
 have hyz : 0 < y.zn := by have h1 := O.at_.zones.len; have h2 : y.hp.zones.length = y.zs.length := (by show (y.zs.map _).length = _; rw [List.length_map]); rw [ey] at h2; have h3 := hM.zs.n; omega
 have O10 := O
 have s10 : W18.heap.size = W18.heap.size := rfl
 refine l_as (z := .agg #[.slice none 0 0, .slice none 0 0, .int .i64 0, .slice none 0 0, .slice none 0 0]) f rfl rfl rfl rfl (by kernel_rfl) rfl rfl (fun _ => rfl) (fun _ => rfl) rfl (by intro u hu; simp [Value.cells] at hu; rcases hu with rfl | rfl | rfl | rfl | rfl <;> rfl) ?_; clear f A; intro b20 W21 eb20 hb22 rb20 A f
 dsimp only [Value.cells] at rb20
 have hpb20 := hb22
 have o_b1_b20 : b1 < b20 := by have := row_lt rb1; omega
 have o_b4_b20 : b4 < b20 := by have := row_lt rb4; omega
 have o_b7_b20 : b7 < b20 := by have := row_lt rb7; omega
 have z_B0_b20 := B0.size; rw [eb20] at z_B0_b20
 replace B0 := Below.next B0 hb22; replace O := O.below hb22; replace rb1 := row_next rb1 hb22; replace rb4 := row_next rb4 hb22; replace rb7 := row_next rb7 hb22
 revert A; refine vW (vS (vR ?_))
 have aw10L : AwayL b20 y := awayL_old O10.at_ (by omega)
 have lgz : gz < b20 := by have h1 := O10.hz.lt hyz; omega
 have lgB := O10.gzB
 have lgl : ∀ a, y.lo = some a → a.block ≠ b20 := fun a ha => by have := (owns_blk O10.ol a ha).2.1; omega
 have lgv : gv < b20 := by have h1 := O10.liveLt (by omega); omega
 intro A f
 clear O10
 revert A; refine vlf (h:=vl1 (rowq rb20) (h:=vlm (h:=vlm (h:=vlA (h:=?_)))))
 have ld_b1 := row_lt rb1
 have ld_b4 := row_lt rb4
 have ld_b7 := row_lt rb7
 have ld_b20 := row_lt rb20
 intro A f
 refine l_call f rfl rfl rfl (IsCall.mk' (cap := []) rfl rfl rfl) (pl rfl) (bDel_all _ B y.vn y.vc i y.vo y.live (by omega) (by omega) O.ov) ?_
 clear f A
 rintro _ W23 ⟨g, hg, rfl, ov1, hb24⟩
 refine ⟨_, rfl, ?_⟩
 intro A f
 have hgg : g = gv := O.ev _ hg
 rw [hgg] at hb24
 have hgvB := O.gvB
 replace O := O.withV hb24 ov1 (by have := O.at_.live.reach; omega)
 replace B0 := Below.thenBut B0 hb24 (by omega); replace rb1 := But.row hb24 rb1 (by omega); replace rb4 := But.row hb24 rb4 (by omega); replace rb7 := But.row hb24 rb7 (by omega); replace rb20 := But.row hb24 rb20 (by omega)
 revert A; refine vlf (h:=?_); intro A f
 refine vls f rb20 ?_
 clear rb20; intro W25 hb26 rb20; dsimp only [setL, over, Value.cells] at rb20; replace B0 := Below.thenBut B0 hb26 (by omega); replace rb1 := But.row hb26 rb1 (by omega); replace rb4 := But.row hb26 rb4 (by omega); replace rb7 := But.row hb26 rb7 (by omega); have aw10V : AwayL b20 (y.withV (y.live.eraseIdx i) (y.vn - 1)) := ⟨aw10L.z, aw10L.f, aw10L.t, aw10L.m, aw10L.p, fun _ a ha => by rw [O.ev a ha]; omega⟩
 replace O := O.but10 hb26 aw10V (by omega) lgl (by omega)
 revert A; refine vW (vS (vS (vR (vlm (h:=vlf (h:=vl1 (rowq rb1) (h:=vlm (h:=?_))))))))
 obtain ⟨gb, ob, bab, bob, btb, hab, c0b, c1b, c2b, hXb⟩ := hx.live.at_.at (i) (by have := hx.live.len; omega)
 replace c0b := St.of c0b; replace c1b := St.of c1b; replace c2b := St.of c2b
 refine vlx (h:=vld (y_loadN (vs := [_, _, _]) rfl rfl (ag rfl) rfl ⟨(by first | assumption | exact St.q c0b B0 | exact St.q c1b B0 | exact St.q c2b B0), (by first | assumption | exact St.q c0b B0 | exact St.q c1b B0 | exact St.q c2b B0), (by first | assumption | exact St.q c0b B0 | exact St.q c1b B0 | exact St.q c2b B0), trivial⟩) (h:=?_))
 have lr6 := row_lt rb7
 have lr10 := row_lt rb20
 obtain ⟨gL, e1, e2, e3, e4, e5⟩ := O.rowL (c := b1) (by omega) (by omega)
 have hglB := O.glB
 have hzlt : gz < W25.heap.size := by omega
 have hm : HMid (y.withV (y.live.eraseIdx i) (y.vn - 1)).hp := hmid_live (HMid.of hM) ey _ _
 have hbk : x.live.getD i .zero = ⟨bab, bob, btb⟩ := hXb.out
 have hlo := hM.lv.ok i hi
 intro A f
 rw [show x.hp.live = x.live from rfl, hbk] at hlo
 have hgL10 : b20 ≠ gL := by rcases e5 with ⟨e, a, ha⟩ | e; (have g1 := lgl a ha; have g2 := O.el a ha; omega); omega
 have hgL6 : b7 ≠ gL := by rcases e5 with ⟨e, _⟩ | e <;> omega
 have hgLw : w.heap.size ≤ gL := by rcases e5 with ⟨e, _⟩ | e <;> omega
 refine l_call f rfl rfl rfl (IsCall.mk' (cap := []) rfl rfl rfl) (pl rfl) (pRelease_ok _ B gz gL b20 (y.withV (y.live.eraseIdx i) (y.vn - 1)) cpu bab bob btb rb20 O.hz O.ol e1 e2 aw10V (by omega) hgL10 e3 e4 hzlt (fun l hl => (O.loff l hl).2.2) hm hlo.a (by omega) hlo.o.1 (fun _ => live_back hM hm ey hi hbk)) ?_
 clear f A
 rintro _ W27 ⟨rfl, y2, rh2, hAt2, hy2, hex, haw, hzo⟩
 refine ⟨_, rfl, ?_⟩
 intro A f
 have hfr : FreshH w.heap.size y2 := fun b hb => ⟨haw b (by omega) (by omega) (O.away (by omega)), fun c hc => by rw [hzo] at hc; have h1 : (y.withV (y.live.eraseIdx i) (y.vn - 1)).zo = some ⟨gz, 0, none⟩ := O.ez; rw [h1] at hc; cases hc; dsimp only; omega⟩
 have aw6 := haw b7 (by omega) hgL6 (O.away (by omega))
 have hz6 : ∀ c, y2.zo = some c → c.block ≠ b7 := fun c hc => by rw [hzo] at hc; have h1 : (y.withV (y.live.eraseIdx i) (y.vn - 1)).zo = some ⟨gz, 0, none⟩ := O.ez; rw [h1] at hc; cases hc; dsimp only; omega
 replace B0 := B0.trans (hex.belowB (fun k hk => by rcases hk with e | e | e <;> omega) (by omega))
 replace rb7 := hex.row rb7 (by rintro (e | e | e) <;> omega)
 clear hex haw
 revert A; refine vla (h:=vW (vS (vR (vlm (h:=vlb (y_neq rfl rfl rfl) (h:=?_) (g:=?_))))))
 ·intro c28; exfalso; omega
 intro c28
 refine vW (vD (h:=vK (vT (vS (vR (vl5 (rowq rh2) (h:=?_))))))); intro A f
 refine vls f rb7 ?_
 clear rb7; intro W29 hb30 rb7; dsimp only [setL, over, Value.cells] at rb7; replace B0 := Below.thenBut B0 hb30 (by omega); replace rh2 := But.row hb30 rh2 (by omega); replace hAt2 := at_butA hAt2 hb30 aw6 hz6
 revert A; refine vla (h:=vW (vE ?_)); intro A f
 refine x_retc1 f rfl rfl rfl (ag rfl) rb7 rfl ?_
 exact ⟨⟨y2, rfl, hAt2, hy2.trans (by rw [show (y.withV (y.live.eraseIdx i) (y.vn - 1)).hp = { x.hp with live := x.hp.live.eraseIdx i } from by rw [← ey]; rfl, hbk]), hfr⟩, B0⟩
def drainH (H : Hp) : Hp := { backs H (H.lists.flatMap (·.pages)) with lists := [] }
theorem noLists_hp (y : Hx) (zs : List Zc) (H : Hp) (h : (y.withZ zs).hp = H) : (y.withZ zs).noLists.hp = { H with lists := [] } := by
 rw [← h]; rfl
theorem pDrain_fr (w : World) (x : Hx) (hx : x.At w) (hM : HMay x.hp) (hcb : CanBacks x.hp (x.hp.lists.flatMap (·.pages))) :
    Calls Tryz.prog 14 #[.agg #[.slice x.zo x.zn x.zc, .slice x.mo x.mn x.mc, .int .i64 x.cpus, .slice x.lo x.ln x.lc, .slice x.vo x.vn x.vc]] w fun e w' => (∃ y : Hx, e = .returned (.tuple #[.agg #[.slice y.zo y.zn y.zc, .slice y.mo y.mn y.mc, .int .i64 y.cpus, .slice y.lo y.ln y.lc, .slice y.vo y.vn y.vc], .int .i64 0]) ∧ y.hp = drainH x.hp ∧ y.At w' ∧ FreshH w.heap.size y) ∧ Below w.heap.size w w' := by
 have HC : ∀ W, x.At W → Calls Tryz.prog 15 #[.agg #[.slice x.zo x.zn x.zc, .slice x.mo x.mn x.mc, .int .i64 x.cpus, .slice x.lo x.ln x.lc, .slice x.vo x.vn x.vc]] W fun e w' => e = .returned (.int .i64 0) ∧ Below W.heap.size W w' := fun W hW => (pCheck_any W x hW).mono fun e w1 h1 => by
  obtain ⟨⟨c, rfl, hc⟩, hb⟩ := h1
  rcases hc with ⟨rfl, _⟩ | ⟨_, hn⟩
  ·exact ⟨rfl, hb⟩
  exact absurd hM hn
 have B0 := Below.refl w.heap.size w
 refine sx_enter (args := [_]) 21 Tryz.func14 rfl rfl rfl ?_
 refine vS (vR ?_); intro A f
 refine l_box f rfl rfl rfl rfl rfl ?_; clear f A; intro b1 W2 eb1 hb3 rb1 A f; dsimp only [Value.cells] at rb1
 have z_B0_b1 := B0.size; rw [eb1] at z_B0_b1
 replace B0 := Below.next B0 hb3
 refine l_alloc (z := .agg #[.slice none 0 0, .slice none 0 0, .int .i64 0, .slice none 0 0, .slice none 0 0]) f rfl rfl rfl rfl (by kernel_rfl) ?_; clear f A; intro b4 W5 eb4 hb6 rb4 A f; dsimp only [Value.cells] at rb4
 have o_b1_b4 : b1 < b4 := by have := row_lt rb1; omega
 have z_B0_b4 := B0.size; rw [eb4] at z_B0_b4
 replace B0 := Below.next B0 hb6; replace rb1 := row_next rb1 hb6
 revert A; refine vla (h:=vW (vS (vS (vR (vl5 (rowq rb1) (h:=vlc (HC _ (hx.below B0)) (h:=?_))))))); intro W8 hb7; replace B0 := Below.next B0 hb7; replace rb1 := row_next rb1 hb7; replace rb4 := row_next rb4 hb7
 refine vla (h:=vW (vS (vR (vlm (h:=vlb (y_neq rfl rfl rfl) (h:=?_) (g:=?_))))))
 ·intro c9; exfalso; omega
 intro c9
 refine vW (vD (h:=vK (vT (vS (vR (vl5 (rowq rb1) (h:=?_)))))))
 have ly_b1 := row_lt rb1
 have ly_b4 := row_lt rb4
 have hyB := B0.size
 intro A f
 refine l_call f rfl rfl rfl (IsCall.mk' (cap := []) rfl rfl rfl) (pl rfl) (pCopy_own _ x (hx.below B0)) ?_
 clear f A
 rintro _ W10 ⟨⟨gz, gl, gv, y, rfl, ey, O⟩, hb11⟩
 refine ⟨_, rfl, ?_⟩
 intro A f
 replace B0 := Below.next B0 hb11; replace rb1 := row_next rb1 hb11; replace rb4 := row_next rb4 hb11
 have aw_b1 : Away b1 y := O.away (by omega)
 have aw_b4 : Away b4 y := O.away (by omega)
 have hfr : ∀ b, b < w.heap.size → Away b y := fun b hb => O.away (by omega)
 have HY := O.hz
 have hgB := O.gzB
 have hgl := HY.lt (by have h1 := HY.at_.zones.len; have h2 : y.zs.length = y.hp.zones.length := (by show _ = (y.zs.map _).length; rw [List.length_map]); rw [ey] at h2; have := hM.zs.n; omega)
 clear O
 have HYo := HY.at_
 refine l_as (z := .agg #[.slice none 0 0, .slice none 0 0, .int .i64 0, .slice none 0 0, .slice none 0 0]) f rfl rfl rfl rfl (by kernel_rfl) rfl rfl (fun _ => rfl) (fun _ => rfl) rfl (by intro u hu; simp [Value.cells] at hu; rcases hu with rfl | rfl | rfl | rfl | rfl <;> rfl) ?_; clear f A; intro b12 W13 eb12 hb14 rb12 A f
 dsimp only [Value.cells] at rb12
 have hpb12 := hb14
 have o_b1_b12 : b1 < b12 := by have := row_lt rb1; omega
 have o_b4_b12 : b4 < b12 := by have := row_lt rb4; omega
 have z_B0_b12 := B0.size; rw [eb12] at z_B0_b12
 replace B0 := Below.next B0 hb14; replace HY := HY.below hb14; replace rb1 := row_next rb1 hb14; replace rb4 := row_next rb4 hb14
 have awx : Away b12 y := away_old HYo (by omega)
 revert A; refine vW (vS (vS (vR ?_))); intro A f
 refine l_call f rfl rfl rfl (IsCall.mk' (cap := []) rfl rfl rfl) (pl rfl) (pdrain_ok _ _ gz b12 y rb12 HY (by omega) awx (by rw [ey]; exact hcb)) ?_
 clear f A
 have hlW := B0.size
 have lw_b1 := row_lt rb1
 have lw_b4 := row_lt rb4
 have lw_b12 := row_lt rb12
 rintro _ W15 ⟨rfl, zs, hzs, HY2, rd, hu, haw⟩
 refine ⟨_, rfl, ?_⟩
 intro A f
 replace B0 := B0.trans (hu.below (by omega) (by omega) B0.size)
 replace rb1 := hu.row rb1 (by omega) (by omega)
 replace rb4 := hu.row rb4 (by omega) (by omega)
 replace aw_b1 := haw _ (by omega) aw_b1
 replace aw_b4 := haw _ (by omega) aw_b4
 replace hfr := fun b (hb : b < w.heap.size) => haw b (by omega) (hfr b hb)
 clear rb12
 have rb12 := rd
 revert A; refine vla (h:=vW (vS (vR (vlm (h:=vlb (y_neq rfl rfl rfl) (h:=?_) (g:=?_))))))
 ·intro c16; exfalso; omega
 intro c16
 refine vW (vD (h:=vK (vT (vS (vR (vl5 (rowq rb12) (h:=?_))))))); intro A f
 refine vls f rb4 ?_
 clear rb4; intro W17 hb18 rb4; dsimp only [setL, over, Value.cells] at rb4; replace B0 := Below.thenBut B0 hb18 (by omega); replace rb1 := But.row hb18 rb1 (by omega); replace rb12 := But.row hb18 rb12 (by omega); replace HY2 := HY2.but hb18 (by omega) (aw_b4).noLists
 revert A; refine vla (h:=vW (vE ?_)); intro A f
 refine x_retc1 f rfl rfl rfl (ag rfl) rb4 rfl ?_
 exact ⟨⟨(y.withZ zs).noLists, rfl, by rw [noLists_hp y zs _ hzs, ey]; rfl, HY2.at_, fun b hb => ⟨(hfr b hb).noLists, fun a ha => by rw [HY2.ez] at ha; cases ha; dsimp only; omega⟩⟩, B0⟩
end Go.Proofs.YtjohdbiipeedkabGreatDoor
namespace Go.Proofs.YtjohdbiipeedkabGreatDoor.Kit
open Go Go.RowKit
variable {P : Program} {C : World → Prop} {L : List (Nat × Value)} {o : Oper} {x y : Operand} {t u : TypeId} {a b : Int}
theorem y_max (ho : o.op = .call ⟨.builtin .max, #[x, y], #[t, u]⟩) (hx : ev L x = some (.int .i64 a)) (hy : ev L y = some (.int .i64 b)) : YC P C L o (.int .i64 (max a b)) := by
 intro ρ hρ wx _
 simp [execOp, ho, hρ _ _ hx, hρ _ _ hy, resolve, builtin, Builtin.max_, Builtin.max2, go_sem]
 split <;> omega
theorem y_min (ho : o.op = .call ⟨.builtin .min, #[x, y], #[t, u]⟩) (hx : ev L x = some (.int .i64 a)) (hy : ev L y = some (.int .i64 b)) : YC P C L o (.int .i64 (min a b)) := by
 intro ρ hρ wx _
 simp [execOp, ho, hρ _ _ hx, hρ _ _ hy, resolve, builtin, Builtin.min_, Builtin.min2, go_sem]
 split <;> omega
end Go.Proofs.YtjohdbiipeedkabGreatDoor.Kit
namespace Go.Proofs.YtjohdbiipeedkabGreatDoor
open Go Go.RowKit Go.Proofs.YtjohdbiipeedkabGreatDoor.Kit
theorem zGive_do (w : World) (fo : Option Addr) (fn fc : Nat) (to_ : Option Addr) (tn tc : Nat) (z : Zn) (a s : Int) (h : ZnAt w fo fn to_ tn z) (hM : ZMay z) (hr : giveOk z a s) (G : Option Zn) (hG : giveK s.toNat z a = G) :
    Calls Tryz.prog 52 #[.agg #[.int .i64 z.f, .int .i64 z.t, .slice fo fn fc, .slice to_ tn tc], .int .i64 a, .int .i64 s] w fun e w' => ((∃ Z, G = some Z ∧ RetZone w.heap.size w' Z e) ∨ (G = none ∧ RetNone 5 e)) ∧ Below w.heap.size w w' := by
 have I0 := cbI_first w fo fn fc to_ tn tc z h
 have c0 := I0.box.c0
 have c1 := I0.box.c1
 have c2 := I0.box.c2
 have c3 := I0.box.c3
 obtain ⟨n1, n2, n3, n4, n5⟩ := hM.new
 obtain ⟨r1, r2, r3, r4⟩ := hr
 obtain ⟨S, rfl⟩ : ∃ S : Nat, s = S := ⟨s.toNat, by omega⟩
 have htr := h.types.reach
 have HG : Hid (giveK S z a = G) := by show _ = _; rw [← hG]; rfl
 have g1 : ¬ ((S : Int) < 0) := by omega
 have g2 : ¬ a < z.f := by omega
 have g3 : ¬ z.t < a := by omega
 have g4 : ¬ z.t - a < (S : Int) := by omega
 clear h hG
 go_enter Tryz.func52, Tryz.ntmps52
 go_wp2_with fail
 go_at_call 53
 refine (zCheck_ok _ fo fn fc to_ tn tc z I0.zn hM).mono ?_
 rintro e w1 ⟨rfl, hb⟩
 have I1 := I0.step hb
 clear I0 hb c0 c1 c2 c3
 have c0 := I1.box.c0
 have c1 := I1.box.c1
 have c2 := I1.box.c2
 have c3 := I1.box.c3
 go_wp2_with fail
 go_at_call 38
 refine (zCopy_own _ fo fn fc to_ tn tc z I1.zn).mono ?_
 rintro e w3 ⟨g, k, rfl, o1, o2, hgk, hb3⟩
 have I3 := I1.step hb3
 have Z4 := zo_new o1 o2 hgk
 have hbx := below_box w3 (.cells #[.int .i64 z.f, .int .i64 z.t, .slice (some ⟨g, 0, none⟩) fn fn, .slice (some ⟨k, 0, none⟩) tn tn] 77)
 have I4 := I3.step hbx
 have hs1 := I1.size
 have hs3 := I3.size
 obtain ⟨W4, hW4⟩ : ∃ W4, w3.alloc (.cells #[.int .i64 z.f, .int .i64 z.t, .slice (some ⟨g, 0, none⟩) fn fn, .slice (some ⟨k, 0, none⟩) tn tn] 77) = W4 := ⟨_, rfl⟩
 rw [hW4] at I4 Z4
 have HW4 : Hid _ := hW4
 clear I1 I3 hb3 c0 c1 c2 c3 o1 o2 hbx hW4 g1 g2 g3 g4
 go_wp2_with (rw [HW4.out])
 clear HW4
 go_loopw [44] (fun iv wr => ∃ (i : Nat) (zi : Zn) (g n cap : Nat), i ≤ S ∧ iv = .int .i64 i ∧ Hid (giveK (S - i) zi (a + i) = G) ∧ ZMay zi ∧ zi.f = z.f ∧ zi.t = z.t ∧ Zo wr w1.heap.size w3.heap.size g n cap k tn tn zi ∧ Res4 wr (w.heap.size + 1) ∧ Below w.heap.size w wr ∧ w.heap.size + 2 ≤ wr.heap.size) (fun iv _ => S - (intOf iv).toNat)
 case atStart => exact ⟨0, z, g, fn, fn, Nat.zero_le _, rfl, by simpa using HG, hM, rfl, rfl, Z4, I4.res, I4.b, I4.size⟩
 case round =>
  obtain ⟨i, zi, g, n, cap, hi, rfl, hGi, hMi, hf, ht, Z, R, hB, hs⟩ := hrel
  clear Z4 I4 HG hM hgk
  have hgb := (Row.of Z.own).1
  by_cases hlt : i < S
  ·have hA : blkIn zi.f zi.t (a + i) 0 := page_in (by omega) (by omega)
   obtain ⟨m, hm⟩ : ∃ m, S - i = m + 1 := ⟨S - i - 1, by omega⟩
   by_cases hv : ovlP zi.free (a + i) 0
   ·have HP := put_twice wr w1.heap.size w3.heap.size g n cap k tn tn zi (a + i) 0 Z hMi hA hv
    have HN : Hid (G = none) := by show _ = _; rw [← hGi.out, hm]; exact give_none hv
    clear hGi hMi hv hA
    go_wp2_with fail
    go_at_call 72
    refine HP.mono ?_
    rintro e w5 ⟨rfl, hb5⟩
    have R1 := R.below hb5
    have hB5 := hB.trans (hb5.mono hB.size)
    have hs5 := hb5.size
    obtain ⟨⟨x0, d0⟩, ⟨x1, d1⟩, ⟨x2, d2⟩, ⟨x3, d3⟩, z0, z1, z2, z3⟩ := id R1
    clear HP Z R hb5 hB
    go_wp2
    obtain ⟨k0, k1, k2, k3⟩ := res4 R1 (.int .i64 0) (.int .i64 0) (.slice none 0 0) (.slice none 0 0)
    have hbt := but4 w5 (w.heap.size + 1) (.int .i64 0) (.int .i64 0) (.slice none 0 0) (.slice none 0 0)
    exact bodyPost_ret (v := .tuple #[.agg #[.int .i64 0, .int .i64 0, .slice none 0 0, .slice none 0 0], .int .i64 5]) (by simp [results, Tryz.results52, go_sem, k0, k1, k2, k3]) rfl ⟨.inr ⟨HN.out, rfl⟩, hB5.trans (hbt.below (by omega) (by omega))⟩
   have HP := put_ok wr w1.heap.size w3.heap.size g n cap k tn tn zi (a + i) 0 Z hMi hA hv
   have HN : Hid (giveK (S - (i + 1)) (backZ zi (a + i) 0) (a + ((i + 1 : Nat) : Int)) = G) := by
    show _ = _
    rw [← hGi.out, hm, give_some hv, show S - (i + 1) = m by omega, show a + ((i + 1 : Nat) : Int) = a + i + 1 by omega]
   have hM2 := backZ_may hMi hA hv
   have hf2 : (backZ zi (a + i) 0).f = z.f := hf
   have ht2 : (backZ zi (a + i) 0).t = z.t := ht
   obtain ⟨Y, hY⟩ : ∃ Y, backZ zi (a + i) 0 = Y := ⟨_, rfl⟩
   rw [hY] at HP HN hM2 hf2 ht2
   have hzl := Z.box.lt
   clear hGi hMi hv hA hY Z
   go_wp2_with fail
   go_at_call 72
   refine HP.mono ?_
   rintro e w5 ⟨rfl, g', n', cap', Z5, hg', hU⟩
   have R5 := hU.res R (by omega) (by omega)
   have hB5 : Below w.heap.size w w5 := hB.trans (hU.below (by omega) (by omega) (by omega))
   have hs5 := Nat.le_trans hs hU.size
   clear HP R hB hU
   go_wp2
   go_roundw
   case rel => exact ⟨i + 1, Y, g', n', cap', by omega, by go_num, HN, hM2, hf2, ht2, Z5, R5, hB5, hs5⟩
   case measure => simp [intOf]; omega
  have HN : Hid (G = some zi) := by
   show _ = _
   have h0 : S - i = 0 := by omega
   rw [← hGi.out, h0]
   rfl
  have hbl := may_len hMi
  obtain ⟨⟨x0, d0⟩, ⟨x1, d1⟩, ⟨x2, d2⟩, ⟨x3, d3⟩, z0, z1, z2, z3⟩ := id R
  have y0 := Z.box.c0
  have y1 := Z.box.c1
  have y2 := Z.box.c2
  have y3 := Z.box.c3
  have hkb := (Row.of Z.typ).1
  have B7 := blks_own Z.own (by have := bowns_len Z.own; omega)
  have N7 := nums_of_owns Z.typ htr
  clear hGi hMi Z hf ht
  go_wp2
  obtain ⟨k0, k1, k2, k3⟩ := res4 R (.int .i64 zi.f) (.int .i64 zi.t) (.slice (some ⟨g, 0, none⟩) n cap) (.slice (some ⟨k, 0, none⟩) tn tn)
  have hbt := but4 wr (w.heap.size + 1) (.int .i64 zi.f) (.int .i64 zi.t) (.slice (some ⟨g, 0, none⟩) n cap) (.slice (some ⟨k, 0, none⟩) tn tn)
  exact bodyPost_ret (v := .tuple #[.agg #[.int .i64 zi.f, .int .i64 zi.t, .slice (some ⟨g, 0, none⟩) n cap, .slice (some ⟨k, 0, none⟩) tn tn], .int .i64 0]) (by simp [results, Tryz.results52, go_sem, k0, k1, k2, k3]) rfl ⟨.inl ⟨zi, HN.out, _, _, _, _, _, _, rfl, hbt.zn ⟨B7, N7⟩ (fun a ha => by cases ha; dsimp only; omega) (fun a ha => by cases ha; dsimp only; omega), fun a ha => by cases ha; dsimp only; omega, fun a ha => by cases ha; dsimp only; omega⟩, hB.trans (hbt.below (by omega) (by omega))⟩
theorem rep_set (k N : Nat) (h : k < N) : (List.replicate k (1 : Int) ++ List.replicate (N - k) 0).set k 1 = List.replicate (k + 1) 1 ++ List.replicate (N - (k + 1)) 0 := by
 obtain ⟨m, hm⟩ : ∃ m, N - k = m + 1 := ⟨N - k - 1, by omega⟩
 have e : N - (k + 1) = m := by omega
 rw [hm, e, List.set_append_right _ _ (by simp), List.length_replicate, Nat.sub_self, List.replicate_succ, List.set_cons_zero, List.replicate_succ', List.append_assoc]
 rfl
theorem zNew_nat (w : World) (f t : Nat) (h1 : f ≤ t) (h2 : t ≤ 256) (h3 : f % 16 = 0) (h4 : t % 16 = 0) :
    Calls Tryz.prog 51 #[.int .i64 f, .int .i64 t] w fun e w' => RetZone w.heap.size w' ⟨f, t, [], List.replicate ((t - f) / 8) 1⟩ e ∧ Below w.heap.size w w' := by
 have HB : Hid (newB f t = true) := newB_t ⟨by omega, by omega, by omega, by omega, by omega⟩
 obtain ⟨i0, hi, hz0, hz1, hz2⟩ := info_parts info_int
 have hb1 := below_box w (.cells #[.int .i64 0, .int .i64 0, .slice none 0 0, .slice none 0 0] 77)
 have R0 : Res4 (w.alloc (.cells #[.int .i64 0, .int .i64 0, .slice none 0 0, .slice none 0 0] 77)) w.heap.size := (zbox_new w _ _ _ _ _).res
 have hs1 : (w.alloc (.cells #[.int .i64 0, .int .i64 0, .slice none 0 0, .slice none 0 0] 77)).heap.size = w.heap.size + 1 := by simp
 obtain ⟨W0, hW0⟩ : ∃ W0, w.alloc (.cells #[.int .i64 0, .int .i64 0, .slice none 0 0, .slice none 0 0] 77) = W0 := ⟨_, rfl⟩
 rw [hW0] at hb1 R0 hs1
 obtain ⟨N, hN⟩ : ∃ N, N = (t - f) / 8 := ⟨_, rfl⟩
 have hN3 : N ≤ 32 := by omega
 obtain ⟨D, hD⟩ : ∃ D : Nat, (t : Int) - f = (D : Int) := ⟨t - f, by omega⟩
 have hq : (D : Int) / 8 = (N : Int) := by omega
 rw [← hN]
 have HW0 : Hid _ := hW0
 clear hW0 hN h3 h4
 go_enter Tryz.func51, Tryz.ntmps51
 go_wp2_with fail
 go_at_call 71
 refine (bounds_any _ f t).mono ?_
 rintro e w' ⟨rfl, rfl⟩
 rw [HB.out, HW0.out]
 have hml : N ≤ maxLen := by unfold maxLen; omega
 have hby : i0.bytes * N ≤ 281474976710656 := by rw [hz2]; omega
 go_wp2_with (at_make; refine wpList_make_full _ rfl (.tmp 16) (.tmp 16) 30 rfl W0.heap.size 3 i0 (.int .i64 0) 1 Tryz.underlying30 hi hz0 hz1 .i64 .i64 _ _ N rfl rfl (by go_num) (by go_num) hby hml (Nat.le_refl _) ?_; rw [made_vals]; intro w1 hown hg1; have hbw : Below W0.heap.size W0 w1 := (Below.refl _ _).grown hg1 (Nat.le_refl _) (by simp); clear hg1)
 have R1 := R0.below hbw
 have hB1 := hb1.trans (hbw.mono hb1.size)
 have hs2 : w.heap.size + 1 ≤ w1.heap.size := by have := hbw.size; omega
 have hown1 : w1.ownsRow (w.heap.size + 1) 3 1 (.slice (some ⟨w.heap.size + 1, 0, none⟩) N N) N (vals (List.replicate N 0)) := by rw [hs1] at hown; exact hown
 clear hown hbw R0 hb1 HW0 HB hD hq
 go_loopw [20] (fun iv wr => ∃ k : Nat, k ≤ N ∧ iv = .int .i64 k ∧ wr.ownsRow (w.heap.size + 1) 3 1 (.slice (some ⟨w.heap.size + 1, 0, none⟩) N N) N (vals (List.replicate k 1 ++ List.replicate (N - k) 0)) ∧ Res4 wr w.heap.size ∧ Below w.heap.size w wr) (fun iv _ => N - (intOf iv).toNat)
 case atStart => exact ⟨0, Nat.zero_le _, rfl, by simpa using hown1, R1, hB1⟩
 case round =>
  obtain ⟨k, hk, rfl, hown, R, hb⟩ := hrel
  clear R1 hB1 hown1
  by_cases hlt : k < N
  ·obtain ⟨c1, c2, hown'⟩ := owns_store hown k hlt 1
   have e1 : (List.replicate k (1 : Int) ++ List.replicate (N - k) 0).set k 1 = List.replicate (k + 1) 1 ++ List.replicate (N - (k + 1)) 0 := rep_set k N hlt
   rw [e1] at hown'
   have hbt : But (w.heap.size + 1) wr (wr.setCell ⟨w.heap.size + 1, k, none⟩ (.int .i64 1)) := (But.refl _ _).setCell _
   have R' := R.but hbt (by omega)
   have hs : w.heap.size + 1 < wr.heap.size := (hown.lt _ rfl).2
   have hb' := hb.trans (hbt.below (B := w.heap.size) (by omega) (by omega))
   clear hown R hb hbt e1
   go_wp2
   go_roundw
   case rel => exact ⟨k + 1, by omega, by go_num, hown', R', hb'⟩
   case measure => simp [intOf]; omega
  obtain rfl : k = N := by omega
  have hown' : wr.ownsRow (w.heap.size + 1) 3 1 (.slice (some ⟨w.heap.size + 1, 0, none⟩) k k) k (vals (List.replicate k 1)) := by simpa using hown
  obtain ⟨⟨x0, d0⟩, ⟨x1, d1⟩, ⟨x2, d2⟩, ⟨x3, d3⟩, z0, z1, z2, z3⟩ := id R
  clear hown
  go_wp2
  obtain ⟨k0, k1, k2, k3⟩ := res4 R (.int .i64 f) (.int .i64 t) (.slice none 0 0) (.slice (some ⟨w.heap.size + 1, 0, none⟩) k k)
  have hbt := but4 wr w.heap.size (.int .i64 f) (.int .i64 t) (.slice none 0 0) (.slice (some ⟨w.heap.size + 1, 0, none⟩) k k)
  refine bodyPost_ret (v := .tuple #[.agg #[.int .i64 f, .int .i64 t, .slice none 0 0, .slice (some ⟨w.heap.size + 1, 0, none⟩) k k], .int .i64 0]) (by simp [results, Tryz.results51, go_sem, k0, k1, k2, k3]) rfl ⟨⟨none, 0, 0, some ⟨w.heap.size + 1, 0, none⟩, k, k, rfl, ⟨Blks.nil _, hbt.nums (nums_of_owns hown' (by omega)) (fun a ha => by cases ha; simp)⟩, fresh_none _, fun a ha => by cases ha; simp⟩, hb.trans (hbt.below (Nat.le_refl _) hb.size)⟩
theorem zNew_ok (w : World) (f t : Int) (h : newOk f t) :
    Calls Tryz.prog 51 #[.int .i64 f, .int .i64 t] w fun e w' => RetZone w.heap.size w' (newZ f t) e ∧ Below w.heap.size w w' := by
 obtain ⟨h1, h2, h3, h4, h5⟩ := h
 obtain ⟨F, rfl⟩ : ∃ F : Nat, f = F := ⟨f.toNat, by omega⟩
 obtain ⟨T, rfl⟩ : ∃ T : Nat, t = T := ⟨t.toNat, by omega⟩
 have e : newZ (F : Int) T = ⟨F, T, [], List.replicate ((T - F) / 8) 1⟩ := by
  unfold newZ newTypes
  have : (((T : Int) - F) / 8).toNat = (T - F) / 8 := by omega
  rw [this]
 rw [e]
 exact zNew_nat w F T (by omega) (by omega) (by omega) (by omega)
theorem checkRegion_ok (w : World) (f s : Int) (h : regOk (f, s)) :
    Calls Tryz.prog 70 #[.agg #[.int .i64 f, .int .i64 s]] w fun e w' => e = .returned (.int .i64 0) ∧ Below w.heap.size w w' := by
 obtain ⟨h1, h2, h3, h4, h5⟩ := h
 dsimp only at h1 h2 h3 h4 h5
 have e1 : ¬ s < 1 := by omega
 have e2 : ¬ f < 0 := by omega
 have e3 : ¬ 256 - s < f := by omega
 go_enter Tryz.func70, Tryz.ntmps70
 go_wp2
 go_ret
 exact ⟨rfl, below_box _ _⟩
theorem checkRegion_no (w : World) (f s : Int) (hs : s ≤ 9223372036854775807) (h : ¬ regOk (f, s)) :
    Calls Tryz.prog 70 #[.agg #[.int .i64 f, .int .i64 s]] w fun e w' => e = .returned (.int .i64 1) ∧ Below w.heap.size w w' := by
 unfold regOk at h
 dsimp only at h
 by_cases h1 : s < 1
 ·clear h
  go_enter Tryz.func70, Tryz.ntmps70
  go_wp2
  go_ret
  exact ⟨rfl, below_box _ _⟩
 by_cases h2 : f < 0
 ·clear h
  go_enter Tryz.func70, Tryz.ntmps70
  go_wp2
  go_ret
  exact ⟨rfl, below_box _ _⟩
 have h3 : 256 - s < f := by omega
 clear h
 go_enter Tryz.func70, Tryz.ntmps70
 go_wp2
 go_ret
 exact ⟨rfl, below_box _ _⟩
structure BeTo (l : List (Int × Int)) (k : Nat) (q : Int) : Prop where
 good : GoodTo l k
 lo : 0 ≤ q
 hi : q ≤ 257
 zero : k = 0 → q = 0
 succ : ∀ j, k = j + 1 → q = (l.getD j (0, 0)).1 + (l.getD j (0, 0)).2 + 1
theorem beTo_zero (l : List (Int × Int)) : BeTo l 0 0 := ⟨goodTo_zero l, by omega, by omega, fun _ => rfl, fun j h => by omega⟩
theorem beTo_succ {l : List (Int × Int)} {k : Nat} {q x y : Int} (h : BeTo l k q) (e : l.getD k (0, 0) = (x, y)) (h1 : regOk (x, y)) (h2 : q ≤ x) : BeTo l (k + 1) (x + y + 1) := by
 have h1' := h1
 obtain ⟨p1, p2, p3, p4, p5⟩ := h1'
 dsimp only at p1 p2 p3 p4 p5
 refine ⟨?_, by omega, by omega, fun g => by omega, fun j hj => ?_⟩
 ·cases k with
  | zero => exact goodTo_one (by rw [e]; exact h1)
  | succ j =>
   have hq := h.succ j rfl
   exact goodTo_succ h.good (by rw [e]; exact h1) (by rw [e]; dsimp only; omega)
 obtain rfl : j = k := by omega
 rw [e]
theorem beTo_gap {l : List (Int × Int)} {k : Nat} {q x y : Int} (h : BeTo l k q) (hk : k < l.length) (e : l.getD k (0, 0) = (x, y)) (h1 : 0 ≤ x) (h2 : x < q) : ¬ MayP l := by
 intro g
 cases k with
 | zero => have := h.zero rfl; omega
 | succ j =>
  have hq := h.succ j rfl
  have := g.gap j (by omega)
  rw [e] at this
  dsimp only at this
  omega
theorem top_of_may {l : List (Int × Int)} (h : MayP l) : TopL l := by
 intro r hr
 obtain ⟨i, hi, rfl⟩ := List.getElem_of_mem hr
 have := h.ok i hi
 rw [List.getD_eq_getElem?_getD, List.getElem?_eq_getElem hi] at this
 have := this.2.2.2.1
 simp only [Option.getD_some] at this
 omega
theorem mayBe_any (w : World) (ao : Option Addr) (n cap : Nat) (l : List (Int × Int)) (h : Regs w ao n l) (ht : TopL l) :
    Calls Tryz.prog 48 #[.slice ao n cap] w fun e w' => RetIff e (MayP l) ∧ Below w.heap.size w w' := by
 obtain ⟨hn, hr, hx⟩ := h
 by_cases h40 : (40 : Int) < n
 ·have HF : Hid (¬ MayP l) := fun h => by have := h.len; omega
  clear hx ht
  go_enter Tryz.func48, Tryz.ntmps48
  go_wp2
  go_ret
  exact ⟨⟨false, rfl, fun h => (by cases h), fun h => absurd h HF.out⟩, Below.refl _ _⟩
 go_enter Tryz.func48, Tryz.ntmps48
 go_wp2
 go_loopw [3, 11] (fun q i wr => ∃ (k : Nat) (z : Int), k ≤ n ∧ i = .int .i64 k ∧ q = .int .i64 z ∧ BeTo l k z ∧ Below w.heap.size w wr) (fun _ i _ => n - (intOf i).toNat)
 case atStart => exact ⟨0, 0, Nat.zero_le _, rfl, rfl, beTo_zero l, Below.refl _ _⟩
 case round =>
  obtain ⟨k, z, hk, rfl, rfl, hG, hb⟩ := hrel
  by_cases hlt : k < n
  ·have hxr := hx.below hb
   obtain ⟨b, o, x, y, rfl, c1, c2, hX⟩ := hxr.at k (by omega)
   have hty := ht.at k (by omega) hX.out
   have hz1 := hG.lo
   have hz2 := hG.hi
   clear hxr
   go_wp2_with fail
   go_at_call 70
   have hbx := below_box wr (.cells #[.int .i64 x, .int .i64 y] 49)
   have x0 : (wr.alloc (.cells #[.int .i64 x, .int .i64 y] 49)).cell? ⟨wr.heap.size, 0, none⟩ = some (.int .i64 x) := by go_simp
   have x1 : (wr.alloc (.cells #[.int .i64 x, .int .i64 y] 49)).cell? ⟨wr.heap.size, 1, none⟩ = some (.int .i64 y) := by go_simp
   by_cases hok : regOk (x, y)
   ·refine (checkRegion_ok _ x y hok).mono ?_
    rintro e w1 ⟨rfl, hb1⟩
    have hB1 := hb.trans ((hbx.mono hb.size).trans (hb1.mono (Nat.le_trans hb.size hbx.size)))
    replace x0 := keep x0 hb1
    replace x1 := keep x1 hb1
    by_cases hg : x < z
    ·have HF : Hid (¬ MayP l) := beTo_gap hG (by omega) hX.out hok.1 hg
     clear hx ht hG hok c1 c2 hb hbx hb1
     go_wp2
     go_ret
     exact ⟨⟨false, rfl, fun h => (by cases h), fun h => absurd h HF.out⟩, hB1⟩
    have HG' : BeTo l (k + 1) (x + y + 1) := beTo_succ hG hX.out hok (by omega)
    obtain ⟨p1, p2, p3, p4, p5⟩ := hok
    dsimp only at p1 p2 p3 p4 p5
    clear hx ht hG c1 c2 hb hbx hb1
    go_wp2
    go_roundw
    case rel => exact ⟨k + 1, x + y + 1, by omega, by go_num, by go_num, HG', hB1⟩
    case measure => simp [intOf]; omega
   refine (checkRegion_no _ x y hty hok).mono ?_
   rintro e w1 ⟨rfl, hb1⟩
   have hB1 := hb.trans ((hbx.mono hb.size).trans (hb1.mono (Nat.le_trans hb.size hbx.size)))
   have HF : Hid (¬ MayP l) := fun h => absurd (by have := h.ok k (by omega); rw [hX.out] at this; exact this) hok
   clear hx ht hG hok c1 c2 hb hbx hb1 x0 x1
   go_wp2
   go_ret
   exact ⟨⟨false, rfl, fun h => (by cases h), fun h => absurd h HF.out⟩, hB1⟩
  have HM : Hid (MayP l) := ⟨by omega, fun i hi => hG.good.1 i (by omega), fun i hi => hG.good.2 i (by omega)⟩
  clear hx ht
  go_wp2
  go_ret
  exact ⟨⟨true, rfl, fun _ => HM.out, fun _ => rfl⟩, hb⟩
theorem cCheck_ok (w : World) (mo : Option Addr) (mn mc : Nat) (M : List (Int × Int)) (ro : Option Addr) (rn rc : Nat) (R : List (Int × Int)) (hm : Regs w mo mn M) (hr : Regs w ro rn R) (h : MayP M ∧ MayP R) :
    Calls Tryz.prog 27 #[.agg #[.slice mo mn mc, .slice ro rn rc]] w fun e w' => e = .returned (.int .i64 0) ∧ Below w.heap.size w w' := by
 have hb0 := below_box w (.cells #[.slice mo mn mc, .slice ro rn rc] 25)
 have p1 : (w.alloc (.cells #[.slice mo mn mc, .slice ro rn rc] 25)).cell? ⟨w.heap.size, 1, none⟩ = some (.slice ro rn rc) := by go_simp
 obtain ⟨hM, hR⟩ := h
 have HM : Hid _ := hM
 have HR : Hid _ := hR
 clear hM hR
 go_enter Tryz.func27, Tryz.ntmps27
 go_wp2_with fail
 go_at_call 48
 refine (mayBe_any _ mo mn mc M (hm.below hb0) (top_of_may HM.out)).mono ?_
 rintro e w1 ⟨⟨r, rfl, h1⟩, hb1⟩
 obtain rfl : r = true := h1.2 HM.out
 clear h1
 have hB1 := hb0.trans (hb1.mono hb0.size)
 replace p1 := keep p1 hb1
 have r1 := hr.below hB1
 clear hm hr hb0 hb1
 go_wp2_with fail
 go_at_call 48
 refine (mayBe_any _ ro rn rc R r1 (top_of_may HR.out)).mono ?_
 rintro e w2 ⟨⟨r, rfl, h2⟩, hb2⟩
 obtain rfl : r = true := h2.2 HR.out
 clear h2
 go_wp2
 go_ret
 exact ⟨rfl, hB1.trans (hb2.mono hB1.size)⟩
end Go.Proofs.YtjohdbiipeedkabGreatDoor
