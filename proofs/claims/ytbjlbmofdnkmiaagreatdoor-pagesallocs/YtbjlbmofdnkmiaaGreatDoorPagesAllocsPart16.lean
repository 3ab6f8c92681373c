/-
  OWN TEXTS.
-/
import Derived.Test.YtbjlbmofdnkmiaaGreatDoorPagesAllocsPart15
set_option maxRecDepth 10000
set_option maxHeartbeats 4000000
namespace Go.Proofs.YtbjlbmofdnkmiaaGreatDoor
open Go Go.RowKit Go.Proofs.YtbjlbmofdnkmiaaGreatDoor.Kit
theorem owns_ex {P : Nat → Prop} {W W' : World} {base : Nat} {e : TypeId} {ao : Option Addr} {n cap size : Nat} {xs : List Value} (h : W.ownsRow base e size (.slice ao n cap) n xs) (hb : Ex P W W') (hne : ∀ a, ao = some a → ¬ P a.block) : W'.ownsRow base e size (.slice ao n cap) n xs := by
 refine ⟨h.1, ?_⟩
 rcases h.2 with q | ⟨g, cap', cur, q, h1, h2, h3⟩
 ·exact .inl q
 refine .inr ⟨g, cap', cur, q, h1, ?_, h3⟩
 simp only [Value.slice.injEq] at q
 exact hb.row h2 (hne _ q.1)
theorem HOwn.rowV {w : World} {B gz gl gv c : Nat} {y : Hx} (h : HOwn w B gz gl gv y) (hc : AwayP c y) (hz : gz ≠ c) (hw : c < w.heap.size) :
    ∃ g, (∀ a, y.vo = some a → a.block = g) ∧ AwayP g y ∧ gz ≠ g ∧ g < w.heap.size ∧ ((g = gv ∧ ∃ a, y.vo = some a) ∨ g = c) := by
 cases e : y.vo with
 | none => exact ⟨c, (fun a ha => (by cases ha)), hc, hz, hw, .inr rfl⟩
 | some a =>
  have := (owns_blk h.ov a e).2.1
  exact ⟨gv, fun b hb => by rw [← e] at hb; exact h.ev b hb, ⟨fun z hz _ a ha => ((h.zoff z hz).1 a ha).2.2, fun z hz _ a ha => ((h.zoff z hz).2.1 a ha).2.2, fun _ a ha => (h.moff a ha).2.2, fun _ a ha => by rw [h.el a ha]; exact h.lv, fun l hl _ a ha => ((h.loff l hl).1 a ha).2.2⟩, h.zv, by rw [← h.ev a e]; exact this, .inl ⟨rfl, a, rfl⟩⟩
theorem Away.toP {b : Nat} {y : Hx} (h : Away b y) : AwayP b y := ⟨h.f, h.t, h.m, h.l, h.p⟩
theorem pAlloc_no8 (w : World) (x : Hx) (cpu o fl : Int) (hx : x.At w) (hM : ¬ HMay x.hp) :
    Calls Tryz.prog 5 #[.agg #[.slice x.zo x.zn x.zc, .slice x.mo x.mn x.mc, .int .i64 x.cpus, .slice x.lo x.ln x.lc, .slice x.vo x.vn x.vc], .int .i64 cpu, .int .i64 o, .int .i64 fl] w fun e w' => e = .returned (.tuple #[.agg #[.slice none 0 0, .slice none 0 0, .int .i64 0, .slice none 0 0, .slice none 0 0], .int .i64 0, .int .i64 8]) ∧ Below w.heap.size w w' := by
 have HC : ∀ W, x.At W → Calls Tryz.prog 11 #[.agg #[.slice x.zo x.zn x.zc, .slice x.mo x.mn x.mc, .int .i64 x.cpus, .slice x.lo x.ln x.lc, .slice x.vo x.vn x.vc]] W fun e w' => e = .returned (.int .i64 8) ∧ Below W.heap.size W w' := fun W hW => (pCheck_any W x hW).mono fun e w1 h1 => by
  obtain ⟨⟨c, rfl, hc⟩, hb⟩ := h1
  rcases hc with ⟨_, h⟩ | ⟨rfl, _⟩
  ·exact absurd h hM
  exact ⟨rfl, hb⟩
 have B0 := Below.refl w.heap.size w
 refine sx_enter (args := [_, _, _, _]) 71 Tryz.func5 rfl rfl rfl ?_
 refine vS (vR ?_); intro A f
 refine l_box f rfl rfl rfl rfl rfl ?_; clear f A; intro b1 W2 eb1 hb3 rb1 A f; dsimp only [Value.cells] at rb1
 have z_B0_b1 := B0.size; rw [eb1] at z_B0_b1
 replace B0 := Below.next B0 hb3
 refine l_alloc (z := .agg #[.slice none 0 0, .slice none 0 0, .int .i64 0, .slice none 0 0, .slice none 0 0]) f rfl rfl rfl rfl (by kernel_rfl) ?_; clear f A; intro b4 W5 eb4 hb6 rb4 A f; dsimp only [Value.cells] at rb4
 have o_b1_b4 : b1 < b4 := by have := row_lt rb1; omega
 have z_B0_b4 := B0.size; rw [eb4] at z_B0_b4
 replace B0 := Below.next B0 hb6; replace rb1 := row_next rb1 hb6
 revert A; refine vla (h:=vla (h:=vW (vS (vS (vR (vl5 (rowq rb1) (h:=vlc (HC _ (hx.below B0)) (h:=?_)))))))); intro W8 hb7; replace B0 := Below.next B0 hb7; replace rb1 := row_next rb1 hb7; replace rb4 := row_next rb4 hb7
 refine vla (h:=vW (vS (vR (vlm (h:=vlb (y_neq rfl rfl rfl) (h:=?_) (g:=?_))))))
 ·intro c9
  refine vW (vC (h:=vS (vR (vld (y_build #[.slice none 0 0, .slice none 0 0, .int .i64 0, .slice none 0 0, .slice none 0 0] rfl rfl (by kernel_rfl)) (h:=vlm (h:=?_)))))); intro A f
  refine vls f rb4 ?_
  clear rb4; intro W10 hb11 rb4; dsimp only [setL, over, Value.cells] at rb4; replace B0 := Below.thenBut B0 hb11 (by omega); replace rb1 := But.row hb11 rb1 (by omega)
  revert A; refine vla (h:=vla (h:=vW (vE (vF ?_)))); intro A f
  refine x_retc2 f rfl rfl rfl rfl (ag rfl) rb4 rfl ?_
  exact ⟨rfl, B0⟩
 intro c9; exfalso; omega
theorem pAlloc_no1a (w : World) (x : Hx) (cpu o fl : Int) (hx : x.At w) (hM : HMay x.hp) (hc : ¬ (0 ≤ cpu ∧ cpu ≤ x.cpus - 1)) :
    Calls Tryz.prog 5 #[.agg #[.slice x.zo x.zn x.zc, .slice x.mo x.mn x.mc, .int .i64 x.cpus, .slice x.lo x.ln x.lc, .slice x.vo x.vn x.vc], .int .i64 cpu, .int .i64 o, .int .i64 fl] w fun e w' => e = .returned (.tuple #[.agg #[.slice none 0 0, .slice none 0 0, .int .i64 0, .slice none 0 0, .slice none 0 0], .int .i64 0, .int .i64 1]) ∧ Below w.heap.size w w' := by
 have HC : ∀ W, x.At W → Calls Tryz.prog 11 #[.agg #[.slice x.zo x.zn x.zc, .slice x.mo x.mn x.mc, .int .i64 x.cpus, .slice x.lo x.ln x.lc, .slice x.vo x.vn x.vc]] W fun e w' => e = .returned (.int .i64 0) ∧ Below W.heap.size W w' := fun W hW => (pCheck_any W x hW).mono fun e w1 h1 => by
  obtain ⟨⟨c, rfl, hc⟩, hb⟩ := h1
  rcases hc with ⟨rfl, _⟩ | ⟨_, hn⟩
  ·exact ⟨rfl, hb⟩
  exact absurd hM hn
 have B0 := Below.refl w.heap.size w
 refine sx_enter (args := [_, _, _, _]) 71 Tryz.func5 rfl rfl rfl ?_
 refine vS (vR ?_); intro A f
 refine l_box f rfl rfl rfl rfl rfl ?_; clear f A; intro b1 W2 eb1 hb3 rb1 A f; dsimp only [Value.cells] at rb1
 have z_B0_b1 := B0.size; rw [eb1] at z_B0_b1
 replace B0 := Below.next B0 hb3
 refine l_alloc (z := .agg #[.slice none 0 0, .slice none 0 0, .int .i64 0, .slice none 0 0, .slice none 0 0]) f rfl rfl rfl rfl (by kernel_rfl) ?_; clear f A; intro b4 W5 eb4 hb6 rb4 A f; dsimp only [Value.cells] at rb4
 have o_b1_b4 : b1 < b4 := by have := row_lt rb1; omega
 have z_B0_b4 := B0.size; rw [eb4] at z_B0_b4
 replace B0 := Below.next B0 hb6; replace rb1 := row_next rb1 hb6
 revert A; refine vla (h:=vla (h:=vW (vS (vS (vR (vl5 (rowq rb1) (h:=vlc (HC _ (hx.below B0)) (h:=?_)))))))); intro W8 hb7; replace B0 := Below.next B0 hb7; replace rb1 := row_next rb1 hb7; replace rb4 := row_next rb4 hb7
 refine vla (h:=vW (vS (vR (vlm (h:=vlb (y_neq rfl rfl rfl) (h:=?_) (g:=?_))))))
 ·intro c9; exfalso; omega
 intro c9
 refine vW (vD (h:=vK (vT (vS (vS (vR (vl5 (rowq rb1) (h:=vlm (h:=vlc (by have e := pIsCpu_any W8 (.slice x.zo x.zn x.zc) (.slice x.mo x.mn x.mc) (.slice x.lo x.ln x.lc) (.slice x.vo x.vn x.vc) x.cpus cpu; rw [inB_f hc] at e; exact e) (h:=?_)))))))))); intro W10 hb11; replace B0 := Below.next B0 hb11; replace rb1 := row_next rb1 hb11; replace rb4 := row_next rb4 hb11
 refine vln (h:=vlm (h:=vlO 3 (h:=vlp (h:=vW (vC (h:=vS (vR (vld (y_build #[.slice none 0 0, .slice none 0 0, .int .i64 0, .slice none 0 0, .slice none 0 0] rfl rfl (by kernel_rfl)) (h:=?_))))))))); intro A f
 refine vls f rb4 ?_
 clear rb4; intro W12 hb13 rb4; dsimp only [setL, over, Value.cells] at rb4; replace B0 := Below.thenBut B0 hb13 (by omega); replace rb1 := But.row hb13 rb1 (by omega)
 revert A; refine vla (h:=vla (h:=vW (vE (vF ?_)))); intro A f
 refine x_retc2 f rfl rfl rfl rfl (ag rfl) rb4 rfl ?_
 exact ⟨rfl, B0⟩
theorem pAlloc_no1b (w : World) (x : Hx) (cpu o fl : Int) (hx : x.At w) (hM : HMay x.hp) (hc : 0 ≤ cpu ∧ cpu ≤ x.cpus - 1) (ho : ¬ (0 ≤ o ∧ o ≤ 4)) :
    Calls Tryz.prog 5 #[.agg #[.slice x.zo x.zn x.zc, .slice x.mo x.mn x.mc, .int .i64 x.cpus, .slice x.lo x.ln x.lc, .slice x.vo x.vn x.vc], .int .i64 cpu, .int .i64 o, .int .i64 fl] w fun e w' => e = .returned (.tuple #[.agg #[.slice none 0 0, .slice none 0 0, .int .i64 0, .slice none 0 0, .slice none 0 0], .int .i64 0, .int .i64 1]) ∧ Below w.heap.size w w' := by
 have HC : ∀ W, x.At W → Calls Tryz.prog 11 #[.agg #[.slice x.zo x.zn x.zc, .slice x.mo x.mn x.mc, .int .i64 x.cpus, .slice x.lo x.ln x.lc, .slice x.vo x.vn x.vc]] W fun e w' => e = .returned (.int .i64 0) ∧ Below W.heap.size W w' := fun W hW => (pCheck_any W x hW).mono fun e w1 h1 => by
  obtain ⟨⟨c, rfl, hc⟩, hb⟩ := h1
  rcases hc with ⟨rfl, _⟩ | ⟨_, hn⟩
  ·exact ⟨rfl, hb⟩
  exact absurd hM hn
 have B0 := Below.refl w.heap.size w
 refine sx_enter (args := [_, _, _, _]) 71 Tryz.func5 rfl rfl rfl ?_
 refine vS (vR ?_); intro A f
 refine l_box f rfl rfl rfl rfl rfl ?_; clear f A; intro b1 W2 eb1 hb3 rb1 A f; dsimp only [Value.cells] at rb1
 have z_B0_b1 := B0.size; rw [eb1] at z_B0_b1
 replace B0 := Below.next B0 hb3
 refine l_alloc (z := .agg #[.slice none 0 0, .slice none 0 0, .int .i64 0, .slice none 0 0, .slice none 0 0]) f rfl rfl rfl rfl (by kernel_rfl) ?_; clear f A; intro b4 W5 eb4 hb6 rb4 A f; dsimp only [Value.cells] at rb4
 have o_b1_b4 : b1 < b4 := by have := row_lt rb1; omega
 have z_B0_b4 := B0.size; rw [eb4] at z_B0_b4
 replace B0 := Below.next B0 hb6; replace rb1 := row_next rb1 hb6
 revert A; refine vla (h:=vla (h:=vW (vS (vS (vR (vl5 (rowq rb1) (h:=vlc (HC _ (hx.below B0)) (h:=?_)))))))); intro W8 hb7; replace B0 := Below.next B0 hb7; replace rb1 := row_next rb1 hb7; replace rb4 := row_next rb4 hb7
 refine vla (h:=vW (vS (vR (vlm (h:=vlb (y_neq rfl rfl rfl) (h:=?_) (g:=?_))))))
 ·intro c9; exfalso; omega
 intro c9
 refine vW (vD (h:=vK (vT (vS (vS (vR (vl5 (rowq rb1) (h:=vlm (h:=vlc (by have e := pIsCpu_any W8 (.slice x.zo x.zn x.zc) (.slice x.mo x.mn x.mc) (.slice x.lo x.ln x.lc) (.slice x.vo x.vn x.vc) x.cpus cpu; rw [inB_t hc] at e; exact e) (h:=?_)))))))))); intro W10 hb11; replace B0 := Below.next B0 hb11; replace rb1 := row_next rb1 hb11; replace rb4 := row_next rb4 hb11
 refine vln (h:=vlm (h:=vlm (h:=vlc (by have e := pIsOrder_any W10 o; rw [inB_f ho] at e; exact c_same e) (h:=?_)))); intro W12 hb13; replace B0 := Below.next B0 hb13; replace rb1 := row_next rb1 hb13; replace rb4 := row_next rb4 hb13
 refine vln (h:=vlp (h:=vW (vC (h:=vS (vR (vld (y_build #[.slice none 0 0, .slice none 0 0, .int .i64 0, .slice none 0 0, .slice none 0 0] rfl rfl (by kernel_rfl)) (h:=?_))))))); intro A f
 refine vls f rb4 ?_
 clear rb4; intro W14 hb15 rb4; dsimp only [setL, over, Value.cells] at rb4; replace B0 := Below.thenBut B0 hb15 (by omega); replace rb1 := But.row hb15 rb1 (by omega)
 revert A; refine vla (h:=vla (h:=vW (vE (vF ?_)))); intro A f
 refine x_retc2 f rfl rfl rfl rfl (ag rfl) rb4 rfl ?_
 exact ⟨rfl, B0⟩
theorem pAlloc_no3 (w : World) (x : Hx) (cpu o fl : Int) (hx : x.At w) (hM : HMay x.hp) (hc : 0 ≤ cpu ∧ cpu ≤ x.cpus - 1) (ho : 0 ≤ o ∧ o ≤ 4) (hf1 : -9223372036854775808 ≤ fl) (hf2 : fl ≤ 9223372036854775807) (hfn : ¬ flagsOk fl) :
    Calls Tryz.prog 5 #[.agg #[.slice x.zo x.zn x.zc, .slice x.mo x.mn x.mc, .int .i64 x.cpus, .slice x.lo x.ln x.lc, .slice x.vo x.vn x.vc], .int .i64 cpu, .int .i64 o, .int .i64 fl] w fun e w' => e = .returned (.tuple #[.agg #[.slice none 0 0, .slice none 0 0, .int .i64 0, .slice none 0 0, .slice none 0 0], .int .i64 0, .int .i64 3]) ∧ Below w.heap.size w w' := by
 have HC : ∀ W, x.At W → Calls Tryz.prog 11 #[.agg #[.slice x.zo x.zn x.zc, .slice x.mo x.mn x.mc, .int .i64 x.cpus, .slice x.lo x.ln x.lc, .slice x.vo x.vn x.vc]] W fun e w' => e = .returned (.int .i64 0) ∧ Below W.heap.size W w' := fun W hW => (pCheck_any W x hW).mono fun e w1 h1 => by
  obtain ⟨⟨c, rfl, hc⟩, hb⟩ := h1
  rcases hc with ⟨rfl, _⟩ | ⟨_, hn⟩
  ·exact ⟨rfl, hb⟩
  exact absurd hM hn
 have B0 := Below.refl w.heap.size w
 refine sx_enter (args := [_, _, _, _]) 71 Tryz.func5 rfl rfl rfl ?_
 refine vS (vR ?_); intro A f
 refine l_box f rfl rfl rfl rfl rfl ?_; clear f A; intro b1 W2 eb1 hb3 rb1 A f; dsimp only [Value.cells] at rb1
 have z_B0_b1 := B0.size; rw [eb1] at z_B0_b1
 replace B0 := Below.next B0 hb3
 refine l_alloc (z := .agg #[.slice none 0 0, .slice none 0 0, .int .i64 0, .slice none 0 0, .slice none 0 0]) f rfl rfl rfl rfl (by kernel_rfl) ?_; clear f A; intro b4 W5 eb4 hb6 rb4 A f; dsimp only [Value.cells] at rb4
 have o_b1_b4 : b1 < b4 := by have := row_lt rb1; omega
 have z_B0_b4 := B0.size; rw [eb4] at z_B0_b4
 replace B0 := Below.next B0 hb6; replace rb1 := row_next rb1 hb6
 revert A; refine vla (h:=vla (h:=vW (vS (vS (vR (vl5 (rowq rb1) (h:=vlc (HC _ (hx.below B0)) (h:=?_)))))))); intro W8 hb7; replace B0 := Below.next B0 hb7; replace rb1 := row_next rb1 hb7; replace rb4 := row_next rb4 hb7
 refine vla (h:=vW (vS (vR (vlm (h:=vlb (y_neq rfl rfl rfl) (h:=?_) (g:=?_))))))
 ·intro c9; exfalso; omega
 intro c9
 refine vW (vD (h:=vK (vT (vS (vS (vR (vl5 (rowq rb1) (h:=vlm (h:=vlc (by have e := pIsCpu_any W8 (.slice x.zo x.zn x.zc) (.slice x.mo x.mn x.mc) (.slice x.lo x.ln x.lc) (.slice x.vo x.vn x.vc) x.cpus cpu; rw [inB_t hc] at e; exact e) (h:=?_)))))))))); intro W10 hb11; replace B0 := Below.next B0 hb11; replace rb1 := row_next rb1 hb11; replace rb4 := row_next rb4 hb11
 refine vln (h:=vlm (h:=vlm (h:=vlc (by have e := pIsOrder_any W10 o; rw [inB_t ho] at e; exact c_same e) (h:=?_)))); intro W12 hb13; replace B0 := Below.next B0 hb13; replace rb1 := row_next rb1 hb13; replace rb4 := row_next rb4 hb13
 refine vln (h:=vlp (h:=vW (vD (h:=vK (vT (vS (vS (vR (vlm (h:=vlc (by have e := pAreFlags_c W12 fl hf1 hf2; rw [decide_eq_false hfn] at e; exact e) (h:=?_))))))))))); intro W14 hb15; replace B0 := Below.next B0 hb15; replace rb1 := row_next rb1 hb15; replace rb4 := row_next rb4 hb15
 refine vln (h:=vW (vC (h:=vS (vR (vld (y_build #[.slice none 0 0, .slice none 0 0, .int .i64 0, .slice none 0 0, .slice none 0 0] rfl rfl (by kernel_rfl)) (h:=?_)))))); intro A f
 refine vls f rb4 ?_
 clear rb4; intro W16 hb17 rb4; dsimp only [setL, over, Value.cells] at rb4; replace B0 := Below.thenBut B0 hb17 (by omega); replace rb1 := But.row hb17 rb1 (by omega)
 revert A; refine vla (h:=vla (h:=vW (vE (vF ?_)))); intro A f
 refine x_retc2 f rfl rfl rfl rfl (ag rfl) rb4 rfl ?_
 exact ⟨rfl, B0⟩
theorem pAlloc_ok (w : World) (x : Hx) (cpu o fl : Int) (hx : x.At w) (hM : HMay x.hp) (hT : TabAt w) (hc : 0 ≤ cpu ∧ cpu ≤ x.cpus - 1) (ho : ordOk o) (hf1 : -9223372036854775808 ≤ fl) (hf2 : fl ≤ 9223372036854775807) (hf : flagsOk fl) :
    Calls Tryz.prog 5 #[.agg #[.slice x.zo x.zn x.zc, .slice x.mo x.mn x.mc, .int .i64 x.cpus, .slice x.lo x.ln x.lc, .slice x.vo x.vn x.vc], .int .i64 cpu, .int .i64 o, .int .i64 fl] w fun e w' => ((find2H x.hp cpu o fl = none ∧ e = .returned (.tuple #[.agg #[.slice none 0 0, .slice none 0 0, .int .i64 0, .slice none 0 0, .slice none 0 0], .int .i64 0, .int .i64 6])) ∨ ∃ (y2 : Hx) (G : Hp) (p : Int), find2H x.hp cpu o fl = some (G, p) ∧ e = .returned (.tuple #[.agg #[.slice y2.zo y2.zn y2.zc, .slice y2.mo y2.mn y2.mc, .int .i64 y2.cpus, .slice y2.lo y2.ln y2.lc, .slice y2.vo y2.vn y2.vc], .int .i64 p, .int .i64 0]) ∧ y2.At w' ∧ y2.hp = { G with live := addB G.live ⟨p, o, typeF fl⟩ }) ∧ Below w.heap.size w w' := by
 have HC : ∀ W, x.At W → Calls Tryz.prog 11 #[.agg #[.slice x.zo x.zn x.zc, .slice x.mo x.mn x.mc, .int .i64 x.cpus, .slice x.lo x.ln x.lc, .slice x.vo x.vn x.vc]] W fun e w' => e = .returned (.int .i64 0) ∧ Below W.heap.size W w' := fun W hW => (pCheck_any W x hW).mono fun e w1 h1 => by
  obtain ⟨⟨c, rfl, hc⟩, hb⟩ := h1
  rcases hc with ⟨rfl, _⟩ | ⟨_, hn⟩
  ·exact ⟨rfl, hb⟩
  exact absurd hM hn
 have hlf := live_few hM.lv
 have hxl := hx.live.len
 rw [show x.hp.live = x.live from rfl] at hlf
 have B0 := Below.refl w.heap.size w
 refine sx_enter (args := [_, _, _, _]) 71 Tryz.func5 rfl rfl rfl ?_
 refine vS (vR ?_); intro A f
 refine l_box f rfl rfl rfl rfl rfl ?_; clear f A; intro b1 W2 eb1 hb3 rb1 A f; dsimp only [Value.cells] at rb1
 have z_B0_b1 := B0.size; rw [eb1] at z_B0_b1
 replace B0 := Below.next B0 hb3
 refine l_alloc (z := .agg #[.slice none 0 0, .slice none 0 0, .int .i64 0, .slice none 0 0, .slice none 0 0]) f rfl rfl rfl rfl (by kernel_rfl) ?_; clear f A; intro b4 W5 eb4 hb6 rb4 A f; dsimp only [Value.cells] at rb4
 have o_b1_b4 : b1 < b4 := by have := row_lt rb1; omega
 have z_B0_b4 := B0.size; rw [eb4] at z_B0_b4
 replace B0 := Below.next B0 hb6; replace rb1 := row_next rb1 hb6
 revert A; refine vla (h:=vla (h:=vW (vS (vS (vR (vl5 (rowq rb1) (h:=vlc (HC _ (hx.below B0)) (h:=?_)))))))); intro W8 hb7; replace B0 := Below.next B0 hb7; replace rb1 := row_next rb1 hb7; replace rb4 := row_next rb4 hb7
 refine vla (h:=vW (vS (vR (vlm (h:=vlb (y_neq rfl rfl rfl) (h:=?_) (g:=?_))))))
 ·intro c9; exfalso; omega
 intro c9
 refine vW (vD (h:=vK (vT (vS (vS (vR (vl5 (rowq rb1) (h:=vlm (h:=vlc (by have e := pIsCpu_any W8 (.slice x.zo x.zn x.zc) (.slice x.mo x.mn x.mc) (.slice x.lo x.ln x.lc) (.slice x.vo x.vn x.vc) x.cpus cpu; rw [inB_t hc] at e; exact e) (h:=?_)))))))))); intro W10 hb11; replace B0 := Below.next B0 hb11; replace rb1 := row_next rb1 hb11; replace rb4 := row_next rb4 hb11
 refine vln (h:=vlm (h:=vlm (h:=vlc (by have e := pIsOrder_any W10 o; rw [inB_t ho] at e; exact c_same e) (h:=?_)))); intro W12 hb13; replace B0 := Below.next B0 hb13; replace rb1 := row_next rb1 hb13; replace rb4 := row_next rb4 hb13
 refine vln (h:=vlp (h:=vW (vD (h:=vK (vT (vS (vS (vR (vlm (h:=vlc (by have e := pAreFlags_c W12 fl hf1 hf2; rw [decide_eq_true hf] at e; exact e) (h:=?_))))))))))); intro W14 hb15; replace B0 := Below.next B0 hb15; replace rb1 := row_next rb1 hb15; replace rb4 := row_next rb4 hb15
 refine vln (h:=vW (vD (h:=vK (vT (vS (vR (vl5 (rowq rb1) (h:=?_))))))))
 have lc_b1 := row_lt rb1
 have lc_b4 := row_lt rb4
 obtain ⟨B, hBd⟩ : ∃ B, B = W14.heap.size := ⟨_, rfl⟩
 have hBw := B0.size
 intro A f
 refine l_call f rfl rfl rfl (IsCall.mk' (cap := []) rfl rfl rfl) (pl rfl) (pCopy_own _ x (hx.below B0)) ?_
 clear f A
 rintro _ W16 ⟨⟨gz, gl, gv, y, rfl, ey, O⟩, hb17⟩
 refine ⟨_, rfl, ?_⟩
 intro A f
 have hcs := hb17.size
 rw [← hBd] at O
 replace B0 := Below.next B0 hb17; replace rb1 := row_next rb1 hb17; replace rb4 := row_next rb4 hb17
 have evl : y.live = x.live := congrArg Hp.live ey
 have hvn : y.vn = x.vn := by have h1 := O.at_.live.len; have h2 := hx.live.len; rw [evl] at h1; omega
 have hyz : 0 < y.zn := by have h1 := O.at_.zones.len; have h2 : y.hp.zones.length = y.zs.length := (by show (y.zs.map _).length = _; rw [List.length_map]); rw [ey] at h2; have h3 := hM.zs.n; omega
 obtain ⟨s10, hs10⟩ : ∃ n, n = W16.heap.size := ⟨_, rfl⟩
 have aw10L : ∀ b, s10 ≤ b → AwayL b y := fun b hb => awayL_old O.at_ (by omega)
 have aw10 : ∀ b, s10 ≤ b → Away b y := fun b hb => away_old O.at_ (by omega)
 have lgz : gz < s10 := by have h1 := O.hz.lt hyz; omega
 have lgl : ∀ a, y.lo = some a → a.block < s10 := fun a ha => by have := (owns_blk O.ol a ha).2.1; omega
 have lgv : ∀ a, y.vo = some a → a.block < s10 := fun a ha => by have := (owns_blk O.ov a ha).2.1; omega
 have lgB := O.gzB
 have lglB := O.glB
 have lgvB := O.gvB
 refine l_as (z := .agg #[.slice none 0 0, .slice none 0 0, .int .i64 0, .slice none 0 0, .slice none 0 0]) f rfl rfl rfl rfl (by kernel_rfl) rfl rfl (fun _ => rfl) (fun _ => rfl) rfl (by intro u hu; simp [Value.cells] at hu; rcases hu with rfl | rfl | rfl | rfl | rfl <;> rfl) ?_; clear f A; intro b18 W19 eb18 hb20 rb18 A f
 dsimp only [Value.cells] at rb18
 have hpb18 := hb20
 have o_b1_b18 : b1 < b18 := by have := row_lt rb1; omega
 have o_b4_b18 : b4 < b18 := by have := row_lt rb4; omega
 have z_B0_b18 := B0.size; rw [eb18] at z_B0_b18
 replace B0 := Below.next B0 hb20; replace O := O.below hb20; replace rb1 := row_next rb1 hb20; replace rb4 := row_next rb4 hb20
 revert A; refine vW (vS (vR (vlm (h:=vlm (h:=vlm (h:=vld (y_build #[.int .i64 cpu, .int .i64 o, .int .i64 fl] rfl rfl (by kernel_rfl)) (h:=?_))))))); intro A f
 refine l_as (z := .agg #[.int .i64 0, .int .i64 0, .int .i64 0]) f rfl rfl rfl rfl (by kernel_rfl) rfl rfl (fun _ => rfl) (fun _ => rfl) rfl (by intro u hu; simp [Value.cells] at hu; rcases hu with rfl | rfl | rfl <;> rfl) ?_; clear f A; intro b21 W22 eb21 hb23 rb21 A f
 dsimp only [Value.cells] at rb21
 have hpb21 := hb23
 have o_b1_b21 : b1 < b21 := by have := row_lt rb1; omega
 have o_b4_b21 : b4 < b21 := by have := row_lt rb4; omega
 have o_b18_b21 : b18 < b21 := by have := row_lt rb18; omega
 have z_B0_b21 := B0.size; rw [eb21] at z_B0_b21
 replace B0 := Below.next B0 hb23; replace O := O.below hb23; replace rb1 := row_next rb1 hb23; replace rb4 := row_next rb4 hb23; replace rb18 := row_next rb18 hb23
 revert A; refine vW (vS (vR (vl3 (rowq rb21) (h:=?_))))
 have lf_b1 := row_lt rb1
 have lf_b4 := row_lt rb4
 have lf_b18 := row_lt rb18
 have lf_b21 := row_lt rb21
 obtain ⟨gL, e1, e2, e3, e4, e5⟩ := O.rowL (c := b1) (by omega) (by omega)
 have hL12 : b18 ≠ gL := by rcases e5 with ⟨e, a, ha⟩ | e; (have g1 := lgl a ha; have g2 := O.el a ha; omega); omega
 have hL13 : b21 ≠ gL := by rcases e5 with ⟨e, a, ha⟩ | e; (have g1 := lgl a ha; have g2 := O.el a ha; omega); omega
 have hL8 : b4 ≠ gL := by rcases e5 with ⟨e, _⟩ | e <;> omega
 have hLw : w.heap.size ≤ gL := by rcases e5 with ⟨e, _⟩ | e <;> omega
 obtain ⟨gV, v1, v2, v3, v4, v5⟩ := O.rowV (c := b21) (aw10 _ (by omega)).toP (by omega) (by omega)
 have hVL : gV ≠ gL := by
  rcases v5 with ⟨e, _⟩ | e
  ·rcases e5 with ⟨e', _⟩ | e'
   ·have := O.lv; omega
   omega
  omega
 have hV12 : b18 ≠ gV := by rcases v5 with ⟨e, a, ha⟩ | e; (have g1 := lgv a ha; have g2 := v1 a ha; omega); omega
 have hV8 : b4 ≠ gV := by rcases v5 with ⟨e, _⟩ | e <;> omega
 have hVw : w.heap.size ≤ gV := by rcases v5 with ⟨e, _⟩ | e <;> omega
 have hVle : gV ≤ b21 := by rcases v5 with ⟨e, a, ha⟩ | e; (have g1 := lgv a ha; have g2 := v1 a ha; omega); omega
 have hMn : MnOk y.hp := by rw [ey]; exact hM.mn
 have hZs : ZsOk y.hp := by rw [ey]; exact hM.zs
 have hls : LssOk y.hp := by rw [ey]; exact hM.ls
 have hcp : y.hp.cpus ≤ 4 := by rw [ey]; exact hM.cpus.2
 have hTW := hT.below B0
 have hBp : 0 < B := by have := hT.pos; omega
 have hq := pFind_c _ B gz gL b18 y cpu o fl rb18 O.hz O.ol e1 e2 (aw10L _ (by omega)) (by omega) hL12 e3 e4 (by omega) hTW hMn hZs hls hcp (fun l hl => (O.loff l hl).2.2) hf.1 ho hBp
 intro A f
 rcases hr1 : findH y.hp cpu o fl with _ | ⟨G, p⟩
 ·skip
  rw [hr1] at hq
  refine l_call f rfl rfl rfl (IsCall.mk' (cap := []) rfl rfl rfl) (pl rfl) hq ?_
  clear f A; rintro _ W24 ⟨rfl, hgot⟩; refine ⟨_, rfl, ?_⟩; intro A f
  clear hq
  have hb25 : Below W22.heap.size W22 W24 := by rcases hgot with h | h; (exact h.2); exact absurd rfl h.1
  clear hgot
  replace B0 := Below.next B0 hb25; replace O := O.below hb25; replace rb1 := row_next rb1 hb25; replace rb4 := row_next rb4 hb25; replace rb18 := row_next rb18 hb25; replace rb21 := row_next rb21 hb25
  revert A; refine vlm (h:=vle (h:=vle (h:=vla (h:=vla (h:=vW (vS (vS (vR (vlm (h:=vln (h:=vW (vC (h:=vS (vS (vR ?_)))))))))))))))
  have ld_b1 := row_lt rb1
  have ld_b4 := row_lt rb4
  have ld_b18 := row_lt rb18
  have ld_b21 := row_lt rb21
  have hsD := B0.size
  intro A f
  refine l_call f rfl rfl rfl (IsCall.mk' (cap := []) rfl rfl rfl) (pl rfl) (pdrainF_ok _ B gz b18 y rb18 O.hz (by omega) (aw10 _ (by omega)) (by rw [ey]; exact hM.canBacks.1)) ?_
  clear f A
  rintro _ W26 ⟨rfl, zsD, hzsD, HYD, rD, hbuD, hafD⟩
  refine ⟨_, rfl, ?_⟩
  intro A f
  have hexD : Ex (fun k => k = gz ∨ k = b18) _ _ := Ex.of_bu2 hbuD (.inl rfl) (.inr rfl)
  have hszD := hexD.size
  have ovD := owns_ex O.ov hexD (fun a ha => by have g1 := v1 a ha; have g2 := lgv a ha; rintro (e | e) <;> omega)
  replace B0 := B0.trans (hexD.belowB (fun k hk => by rcases hk with e | e <;> omega) (by omega))
  replace rb1 := hexD.row rb1 (by rintro (e | e) <;> omega)
  replace rb4 := hexD.row rb4 (by rintro (e | e) <;> omega)
  replace rb21 := hexD.row rb21 (by rintro (e | e) <;> omega)
  revert A; refine vla (h:=vW (vS (vR (vlm (h:=vlb (y_neq rfl rfl rfl) (h:=?_) (g:=?_))))))
  ·intro c27; exfalso; omega
  intro c27
  refine vW (vD (h:=vK (vT (vR (vl3 (rowq rb21) (h:=?_))))))
  have lg_b1 := row_lt rb1
  have lg_b4 := row_lt rb4
  have lg_b21 := row_lt rb21
  have lg_b18 := row_lt rD
  have hTW2 := hT.below B0
  have hhp1 : (y.withZ zsD).noLists.hp = emptyH y.hp := by show ({ (y.withZ zsD).hp with lists := [] } : Hp) = _; rw [hzsD]; rfl
  intro A f
  have hAF := hafD b1 (by omega) ⟨(O.away (by omega)).f, (O.away (by omega)).t⟩
  have hAF12 := hafD b18 (by omega) ⟨(aw10 _ (by omega)).f, (aw10 _ (by omega)).t⟩
  have hAFV := hafD gV (by omega) ⟨v2.f, v2.t⟩
  have alE : AwayL b1 (y.withZ zsD).noLists := ⟨fun _ a ha => by have ha' : y.zo = some a := ha; rw [O.ez] at ha'; cases ha'; dsimp only; omega, hAF.f, hAF.t, (O.awayLow (by omega)).m, fun l hl => (by cases hl), (O.awayLow (by omega)).v⟩
  have ahE : AwayL b18 (y.withZ zsD).noLists := ⟨fun _ a ha => by have ha' : y.zo = some a := ha; rw [O.ez] at ha'; cases ha'; dsimp only; omega, hAF12.f, hAF12.t, (aw10L _ (by omega)).m, fun l hl => (by cases hl), (aw10L _ (by omega)).v⟩
  have v2E : AwayP gV (y.withZ zsD).noLists := ⟨hAFV.f, hAFV.t, v2.m, fun h0 => absurd h0 (Nat.lt_irrefl 0), fun l hl => (by cases hl)⟩
  have hMnE : MnOk (y.withZ zsD).noLists.hp := ⟨hMn.n, hMn.a, hMn.b⟩
  have hZsE : ZsOk (y.withZ zsD).noLists.hp := by rw [hhp1, ey]; exact emptyH_zs hM
  have hlsE : LssOk (y.withZ zsD).noLists.hp := by rw [hhp1]; exact emptyH_ls _
  have hq := pFind_c _ B gz b1 b18 (y.withZ zsD).noLists cpu o fl rD HYD (World.ownsRow_nil _ _ _ _) (fun a ha => by cases ha) alE ahE (by omega) (by omega) (by omega) (by omega) (by omega) hTW2 hMnE hZsE hlsE hcp (fun l hl => by cases hl) hf.1 ho hBp
  rw [hhp1] at hq
  rcases hr2 : findH (emptyH y.hp) cpu o fl with _ | ⟨G, p⟩
  ·skip
   rw [hr2] at hq
   refine l_call f rfl rfl rfl (IsCall.mk' (cap := []) rfl rfl rfl) (pl rfl) hq ?_
   clear f A; rintro _ W28 ⟨rfl, hgot⟩; refine ⟨_, rfl, ?_⟩; intro A f
   clear hq
   have hb29 : Below W26.heap.size W26 W28 := by rcases hgot with h | h; (exact h.2); exact absurd rfl h.1
   clear hgot
   replace B0 := Below.next B0 hb29; replace HYD := HYD.below hb29; replace rb1 := row_next rb1 hb29; replace rb4 := row_next rb4 hb29; replace rb21 := row_next rb21 hb29; replace rD := row_next rD hb29; replace ovD := owns_below ovD hb29 (Nat.le_refl _)
   revert A; refine vlm (h:=vle (h:=vle (h:=vla (h:=vla (h:=vW (vS (vS (vR (vlm (h:=vln (h:=vW (vC (h:=vS (vR (vld (y_build #[.slice none 0 0, .slice none 0 0, .int .i64 0, .slice none 0 0, .slice none 0 0] rfl rfl (by kernel_rfl)) (h:=?_)))))))))))))))); intro A f
   refine vls f rb4 ?_
   clear rb4; intro W30 hb31 rb4; dsimp only [setL, over, Value.cells] at rb4; replace B0 := Below.thenBut B0 hb31 (by omega); replace rb1 := But.row hb31 rb1 (by omega); replace rb21 := But.row hb31 rb21 (by omega); replace rD := But.row hb31 rD (by omega)
   revert A; refine vla (h:=vla (h:=vW (vE (vF ?_)))); intro A f
   refine x_retc2 f rfl rfl rfl rfl (ag rfl) rb4 rfl ?_
   have hfd : find2H x.hp cpu o fl = none := by rw [← ey, find2_two hr1]; exact hr2
   exact ⟨.inl ⟨hfd, rfl⟩, B0⟩
  skip
  rw [hr2] at hq
  refine l_call f rfl rfl rfl (IsCall.mk' (cap := []) rfl rfl rfl) (pl rfl) hq ?_
  clear f A; rintro _ W32 ⟨rfl, hgot⟩; refine ⟨_, rfl, ?_⟩; intro A f
  clear hq
  rcases hgot with ⟨h, _⟩ | ⟨_, zs, ls, lo, ln, lc, rh2, hAt2, hhp2, hex, haw⟩
  ·cases h
  have hexs := hex.size
  have haw8 := haw b4 (by omega) (by omega) ⟨(hafD _ (by omega) ⟨(O.away (b := b4) (by omega)).f, (O.away (b := b4) (by omega)).t⟩).f, (hafD _ (by omega) ⟨(O.away (b := b4) (by omega)).f, (O.away (b := b4) (by omega)).t⟩).t, (O.away (b := b4) (by omega)).m, fun h0 => absurd h0 (Nat.lt_irrefl 0), fun l hl => (by cases hl)⟩
  have hawV := haw gV (by omega) (by rcases v5 with ⟨e, _⟩ | e <;> omega) v2E
  have haw12 := haw b18 (by omega) (by omega) ⟨ahE.f, ahE.t, ahE.m, fun h0 => absurd h0 (Nat.lt_irrefl 0), fun l hl => (by cases hl)⟩
  have ov2 := owns_ex ovD hex (fun a ha => by have := v1 a ha; rintro (e | e | e) <;> omega)
  replace B0 := B0.trans (hex.belowB (fun k hk => by rcases hk with e | e | e <;> omega) (by omega))
  replace rb4 := hex.row rb4 (by rintro (e | e | e) <;> omega)
  replace rb21 := hex.row rb21 (by rintro (e | e | e) <;> omega)
  revert A; refine vlm (h:=vle (h:=vle (h:=vla (h:=vla (h:=vW (vS (vS (vR (vlm (h:=vln (h:=vW (vD (h:=vK (vT (vS (vR ?_))))))))))))))))
  have hez := O.ez
  intro A f
  clear O
  revert A; refine vlm (h:=vlm (h:=vl3 (rowq rb21) (h:=vlc (rqType_c _ cpu o fl hf.1) (h:=?_)))); intro W35 hb34; replace B0 := Below.next B0 hb34; replace hAt2 := hAt2.below hb34; replace rb4 := row_next rb4 hb34; replace rb21 := row_next rb21 hb34; replace rh2 := row_next rh2 hb34; replace ov2 := owns_below ov2 hb34 (Nat.le_refl _)
  refine vld (y_build #[.int .i64 p, .int .i64 o, .int .i64 (typeF fl)] rfl rfl (by kernel_rfl)) (h:=?_)
  have hlz := row_lt rh2
  have hl8 := row_lt rb4
  have hl13 := row_lt rb21
  have hsz2 := B0.size
  intro A f
  refine l_call f rfl rfl rfl (IsCall.mk' (cap := []) rfl rfl rfl) (pl rfl) (pAddLive_c _ B gV b18 (((y.withZ zsD).noLists.withZ zs).withL ls lo ln lc) ⟨p, o, typeF fl⟩ rh2 hAt2 ov2 v1 hawV haw12 (fun a ha => by have ha' : y.zo = some a := ha; rw [hez] at ha'; cases ha'; exact v3) (fun a ha => by have ha' : y.zo = some a := ha; rw [hez] at ha'; cases ha'; dsimp only; omega) hV12 (by show y.vn ≤ 256; omega) (by omega) (by omega)) ?_
  clear f A
  rintro _ W36 ⟨rfl, vo3, vc3, rh3, hAt3, hbu3, hvo3⟩
  refine ⟨_, rfl, ?_⟩
  intro A f
  have hex3 : Ex (fun k => k = b18 ∨ k = gV) _ _ := Ex.of_bu2 hbu3 (.inl rfl) (.inr rfl)
  replace rb4 := hex3.row rb4 (by rintro (e | e) <;> omega)
  replace B0 := B0.trans (hex3.belowB (fun k hk => by rcases hk with e | e <;> omega) (by omega))
  have aw8 : Away b4 ((((y.withZ zsD).noLists.withZ zs).withL ls lo ln lc).withB (addB (((y.withZ zsD).noLists.withZ zs).withL ls lo ln lc).live ⟨p, o, typeF fl⟩) vo3 (y.vn + 1) vc3) := ⟨haw8.f, haw8.t, haw8.m, haw8.l, haw8.p, fun _ a ha => by rcases hvo3 a ha with e | e <;> omega⟩
  revert A; refine vW (vS (vR (vl5 (rowq rh3) (h:=vlm (h:=?_))))); intro A f
  refine vls f rb4 ?_
  clear rb4; intro W37 hb38 rb4; dsimp only [setL, over, Value.cells] at rb4; replace B0 := Below.thenBut B0 hb38 (by omega); replace rh3 := But.row hb38 rh3 (by omega); replace hAt3 := at_butA hAt3 hb38 aw8 (fun c hc => by have hc' : y.zo = some c := hc; rw [hez] at hc'; cases hc'; dsimp only; omega)
  revert A; refine vla (h:=vla (h:=vW (vE ?_))); intro A f
  refine x_retc2 f rfl rfl rfl rfl (ag rfl) rb4 rfl ?_
  have hfd : find2H x.hp cpu o fl = some (G, p) := by rw [← ey, find2_two hr1]; exact hr2
  refine ⟨.inr ⟨_, G, p, hfd, rfl, hAt3, ?_⟩, B0⟩
  show ({ (((y.withZ zsD).noLists.withZ zs).withL ls lo ln lc).hp with live := addB (((y.withZ zsD).noLists.withZ zs).withL ls lo ln lc).hp.live ⟨p, o, typeF fl⟩ } : Hp) = _
  rw [hhp2]
  rfl
 skip
 rw [hr1] at hq
 refine l_call f rfl rfl rfl (IsCall.mk' (cap := []) rfl rfl rfl) (pl rfl) hq ?_
 clear f A; rintro _ W39 ⟨rfl, hgot⟩; refine ⟨_, rfl, ?_⟩; intro A f
 clear hq
 rcases hgot with ⟨h, _⟩ | ⟨_, zs, ls, lo, ln, lc, rh2, hAt2, hhp2, hex, haw⟩
 ·cases h
 have hexs := hex.size
 have haw8 := haw b4 (by omega) (by omega) (O.away (by omega)).toP
 have hawV := haw gV (by omega) hVL v2
 have haw12 := haw b18 (by omega) (by omega) (aw10 _ (by omega)).toP
 have ov2 := owns_ex O.ov hex (fun a ha => by have := v1 a ha; rintro (e | e | e) <;> omega)
 replace B0 := B0.trans (hex.belowB (fun k hk => by rcases hk with e | e | e <;> omega) (by omega))
 replace rb4 := hex.row rb4 (by rintro (e | e | e) <;> omega)
 replace rb21 := hex.row rb21 (by rintro (e | e | e) <;> omega)
 revert A; refine vlm (h:=vle (h:=vle (h:=vla (h:=vla (h:=vW (vS (vS (vR (vlm (h:=vln (h:=vW (vD (h:=vK (vT (vS (vS (vR (vlm (h:=vln (h:=vW (vD (h:=vK (vT (vS (vR ?_)))))))))))))))))))))))))
 have hez := O.ez
 intro A f
 clear O
 revert A; refine vlm (h:=vlm (h:=vl3 (rowq rb21) (h:=vlc (rqType_c _ cpu o fl hf.1) (h:=?_)))); intro W42 hb41; replace B0 := Below.next B0 hb41; replace hAt2 := hAt2.below hb41; replace rb4 := row_next rb4 hb41; replace rb21 := row_next rb21 hb41; replace rh2 := row_next rh2 hb41; replace ov2 := owns_below ov2 hb41 (Nat.le_refl _)
 refine vld (y_build #[.int .i64 p, .int .i64 o, .int .i64 (typeF fl)] rfl rfl (by kernel_rfl)) (h:=?_)
 have hlz := row_lt rh2
 have hl8 := row_lt rb4
 have hl13 := row_lt rb21
 have hsz2 := B0.size
 intro A f
 refine l_call f rfl rfl rfl (IsCall.mk' (cap := []) rfl rfl rfl) (pl rfl) (pAddLive_c _ B gV b18 ((y.withZ zs).withL ls lo ln lc) ⟨p, o, typeF fl⟩ rh2 hAt2 ov2 v1 hawV haw12 (fun a ha => by have ha' : y.zo = some a := ha; rw [hez] at ha'; cases ha'; exact v3) (fun a ha => by have ha' : y.zo = some a := ha; rw [hez] at ha'; cases ha'; dsimp only; omega) hV12 (by show y.vn ≤ 256; omega) (by omega) (by omega)) ?_
 clear f A
 rintro _ W43 ⟨rfl, vo3, vc3, rh3, hAt3, hbu3, hvo3⟩
 refine ⟨_, rfl, ?_⟩
 intro A f
 have hex3 : Ex (fun k => k = b18 ∨ k = gV) _ _ := Ex.of_bu2 hbu3 (.inl rfl) (.inr rfl)
 replace rb4 := hex3.row rb4 (by rintro (e | e) <;> omega)
 replace B0 := B0.trans (hex3.belowB (fun k hk => by rcases hk with e | e <;> omega) (by omega))
 have aw8 : Away b4 (((y.withZ zs).withL ls lo ln lc).withB (addB ((y.withZ zs).withL ls lo ln lc).live ⟨p, o, typeF fl⟩) vo3 (y.vn + 1) vc3) := ⟨haw8.f, haw8.t, haw8.m, haw8.l, haw8.p, fun _ a ha => by rcases hvo3 a ha with e | e <;> omega⟩
 revert A; refine vW (vS (vR (vl5 (rowq rh3) (h:=vlm (h:=?_))))); intro A f
 refine vls f rb4 ?_
 clear rb4; intro W44 hb45 rb4; dsimp only [setL, over, Value.cells] at rb4; replace B0 := Below.thenBut B0 hb45 (by omega); replace rh3 := But.row hb45 rh3 (by omega); replace hAt3 := at_butA hAt3 hb45 aw8 (fun c hc => by have hc' : y.zo = some c := hc; rw [hez] at hc'; cases hc'; dsimp only; omega)
 revert A; refine vla (h:=vla (h:=vW (vE ?_))); intro A f
 refine x_retc2 f rfl rfl rfl rfl (ag rfl) rb4 rfl ?_
 have hfd : find2H x.hp cpu o fl = some (G, p) := by rw [← ey]; exact find2_one hr1
 refine ⟨.inr ⟨_, G, p, hfd, rfl, hAt3, ?_⟩, B0⟩
 show ({ ((y.withZ zs).withL ls lo ln lc).hp with live := addB ((y.withZ zs).withL ls lo ln lc).hp.live ⟨p, o, typeF fl⟩ } : Hp) = _
 rw [hhp2]
 rfl
theorem same_eq (w : World) (ao bo : Option Addr) (n ca cb : Nat) (xs : List Int) (hn : xs.length = n) (hr : n * 8 ≤ 140737488351232) (ha : IntsAt w ao xs) (hb : IntsAt w bo xs) :
    Calls Tryz.prog 26 #[.slice ao n ca, .slice bo n cb] w fun e w' => e = .returned (.bool true) ∧ ∃ d, w' = w.drewN d := by
 go_enter Tryz.func26, Tryz.ntmps26
 go_wp2
 go_loopw [5] (fun i wr => ∃ k d : Nat, k ≤ n ∧ i = .int .i64 k ∧ wr = w.drewN d) (fun i _ => n - (intOf i).toNat)
 case atStart => exact ⟨0, 0, Nat.zero_le _, rfl, rfl⟩
 case round =>
  obtain ⟨k, d, hk, rfl, rfl⟩ := hrel
  by_cases hlt : k < n
  ·obtain ⟨b1, o1, rfl, c1⟩ := ha k (by omega)
   obtain ⟨b2, o2, rfl, c2⟩ := hb k (by omega)
   clear ha hb
   go_wp2
   go_quiet (fail)
   go_wp2
   go_roundw
   case rel => exact ⟨k + 1, _, by omega, by go_num, rfl⟩
   case measure => simp [intOf]; omega
  go_wp2
  go_ret
  exact ⟨rfl, d, rfl⟩
theorem sameBlocks_eq (w : World) (ao bo : Option Addr) (n ca cb : Nat) (l : List Bk) (ha : Blks w ao n l) (hb : Blks w bo n l) :
    Calls Tryz.prog 27 #[.slice ao n ca, .slice bo n cb] w fun e w' => e = .returned (.bool true) ∧ ∃ d, w' = w.drewN d := by
 have hn := ha.len
 have hr := ha.reach
 have xa := ha.at_
 have xb := hb.at_
 clear ha hb
 go_enter Tryz.func27, Tryz.ntmps27
 go_wp2
 go_loopw [5] (fun i wr => ∃ k d : Nat, k ≤ n ∧ i = .int .i64 k ∧ wr = w.drewN d) (fun i _ => n - (intOf i).toNat)
 case atStart => exact ⟨0, 0, Nat.zero_le _, rfl, rfl⟩
 case round =>
  obtain ⟨k, d, hk, rfl, rfl⟩ := hrel
  by_cases hlt : k < n
  ·obtain ⟨b1, o1, x, y, u, rfl, c1, c2, c3, hX⟩ := xa.at k (by omega)
   obtain ⟨b2, o2, x', y', u', rfl, d1, d2, d3, hX'⟩ := xb.at k (by omega)
   have hxy : (⟨x, y, u⟩ : Bk) = ⟨x', y', u'⟩ := hX.out.symm.trans hX'.out
   cases hxy
   clear xa xb hX hX'
   go_wp2
   go_quiet (fail)
   go_wp2
   go_roundw
   case rel => exact ⟨k + 1, _, by omega, by go_num, rfl⟩
   case measure => simp [intOf]; omega
  go_wp2
  go_ret
  exact ⟨rfl, d, rfl⟩
theorem sameZone_eq (w : World) (f t : Int) (f1 f2 t1 t2 : Option Addr) (fn fc1 fc2 tn tc1 tc2 : Nat) (z : Zn) (h1 : ZnAt w f1 fn t1 tn z) (h2 : ZnAt w f2 fn t2 tn z) :
    Calls Tryz.prog 28 #[.agg #[.int .i64 f, .int .i64 t, .slice f1 fn fc1, .slice t1 tn tc1], .agg #[.int .i64 f, .int .i64 t, .slice f2 fn fc2, .slice t2 tn tc2]] w fun e w' => e = .returned (.bool true) ∧ Below w.heap.size w w' := by
 have hb1 : Below w.heap.size w ((w.alloc (.cells #[.int .i64 f, .int .i64 t, .slice f1 fn fc1, .slice t1 tn tc1] 37)).alloc (.cells #[.int .i64 f, .int .i64 t, .slice f2 fn fc2, .slice t2 tn tc2] 37)) := ((Below.refl _ _).alloc (Nat.le_refl _) _).alloc (by simp) _
 have g1 := h1.below hb1
 have g2 := h2.below hb1
 clear h1 h2
 go_enter Tryz.func28, Tryz.ntmps28
 go_wp2_with fail
 go_at_call 27
 refine (sameBlocks_eq _ f1 f2 fn fc1 fc2 z.free g1.free g2.free).mono ?_
 rintro e w1 ⟨rfl, d, rfl⟩
 go_wp2_with fail
 go_at_call 26
 refine (same_eq _ t1 t2 tn tc1 tc2 z.types g1.types.len g1.types.reach (g1.types.at_.below (below_drawn d)) (g2.types.at_.below (below_drawn d))).mono ?_
 rintro e w2 ⟨rfl, d2, rfl⟩
 go_wp2
 go_ret
 exact ⟨rfl, hb1.trans (below_drewN (Below.refl _ _) _)⟩
def hval (x : Hx) : Value := .agg #[.slice x.zo x.zn x.zc, .slice x.mo x.mn x.mc, .int .i64 x.cpus, .slice x.lo x.ln x.lc, .slice x.vo x.vn x.vc]
theorem map_getDH {α β : Type} {l m : List α} {f : α → β} (h : l.map f = m.map f) (i : Nat) (d : α) : f (l.getD i d) = f (m.getD i d) := by
 have e := congrArg (fun s => s[i]?) h
 simp only [List.getElem?_map] at e
 rw [List.getD_eq_getElem?_getD, List.getD_eq_getElem?_getD]
 cases h1 : l[i]? with
 | none =>
  cases h2 : m[i]? with
  | none => rfl
  | some y => rw [h1, h2] at e; cases e
 | some x =>
  cases h2 : m[i]? with
  | none => rw [h1, h2] at e; cases e
  | some y => rw [h1, h2] at e; simpa using e
theorem sameHeap_eq (w : World) (x y : Hx) (hx : x.At w) (hy : y.At w) (he : x.hp = y.hp) :
    Calls Tryz.prog 7 #[.agg #[.slice x.zo x.zn x.zc, .slice x.mo x.mn x.mc, .int .i64 x.cpus, .slice x.lo x.ln x.lc, .slice x.vo x.vn x.vc], .agg #[.slice y.zo y.zn y.zc, .slice y.mo y.mn y.mc, .int .i64 y.cpus, .slice y.lo y.ln y.lc, .slice y.vo y.vn y.vc]] w fun e w' => e = .returned (.bool true) ∧ Below w.heap.size w w' := by
 have e0 : x.zs.map (·.z) = y.zs.map (·.z) := congrArg Hp.zones he
 have e1 : x.mins = y.mins := congrArg Hp.mins he
 have e2 : x.cpus = y.cpus := congrArg Hp.cpus he
 have e3 : x.ls.map (·.l) = y.ls.map (·.l) := congrArg Hp.lists he
 have e4 : x.live = y.live := congrArg Hp.live he
 obtain ⟨zs, zo, zn, zc, mins, mo, mn, mc, cpus, ls, lo, ln, lc, live, vo, vn, vc⟩ := x
 obtain ⟨zs', zo', zn', zc', mins', mo', mn', mc', cpus', ls', lo', ln', lc', live', vo', vn', vc'⟩ := y
 dsimp only at e0 e1 e2 e3 e4 ⊢
 subst e1 e2 e4
 obtain ⟨xz, xm, xl, xv⟩ := hx
 obtain ⟨yz, ym, yl, yv⟩ := hy
 dsimp only at xz xm xl xv yz ym yl yv
 obtain rfl : zn = zn' := by have := congrArg List.length e0; simp only [List.length_map] at this; have := xz.len; have := yz.len; omega
 obtain rfl : ln = ln' := by have := congrArg List.length e3; simp only [List.length_map] at this; have := xl.len; have := yl.len; omega
 obtain rfl : mn = mn' := by have := xm.len; have := ym.len; omega
 obtain rfl : vn = vn' := by have := xv.len; have := yv.len; omega
 clear he
 have hE0 : Hid (zs.map (·.z) = zs'.map (·.z)) := e0
 have hE3 : Hid (ls.map (·.l) = ls'.map (·.l)) := e3
 clear e0 e3
 have hb1 := below_box w (.cells #[.slice zo zn zc, .slice mo mn mc, .int .i64 cpus, .slice lo ln lc, .slice vo vn vc] 27)
 have A1 := hbox_new w (.slice zo zn zc) (.slice mo mn mc) (.int .i64 cpus) (.slice lo ln lc) (.slice vo vn vc) 27
 have hb2 := below_box (w.alloc (.cells #[.slice zo zn zc, .slice mo mn mc, .int .i64 cpus, .slice lo ln lc, .slice vo vn vc] 27)) (.cells #[.slice zo' zn zc', .slice mo' mn mc', .int .i64 cpus, .slice lo' ln lc', .slice vo' vn vc'] 27)
 have A2 := hbox_new (w.alloc (.cells #[.slice zo zn zc, .slice mo mn mc, .int .i64 cpus, .slice lo ln lc, .slice vo vn vc] 27)) (.slice zo' zn zc') (.slice mo' mn mc') (.int .i64 cpus) (.slice lo' ln lc') (.slice vo' vn vc') 27
 replace A1 := A1.below hb2
 have hb0 := hb1.trans (hb2.mono hb1.size)
 have hs0 : (w.alloc (.cells #[.slice zo zn zc, .slice mo mn mc, .int .i64 cpus, .slice lo ln lc, .slice vo vn vc] 27)).heap.size = w.heap.size + 1 := by simp
 rw [hs0] at A2
 clear hb1 hb2 hs0
 obtain ⟨W0, hW0⟩ : ∃ W0, (w.alloc (.cells #[.slice zo zn zc, .slice mo mn mc, .int .i64 cpus, .slice lo ln lc, .slice vo vn vc] 27)).alloc (.cells #[.slice zo' zn zc', .slice mo' mn mc', .int .i64 cpus, .slice lo' ln lc', .slice vo' vn vc'] 27) = W0 := ⟨_, rfl⟩
 rw [hW0] at A1 A2 hb0
 have HW0 : Hid _ := hW0
 replace xz := xz.below hb0
 replace xm := xm.below hb0
 replace xl := xl.below hb0
 replace xv := xv.below hb0
 replace yz := yz.below hb0
 replace ym := ym.below hb0
 replace yl := yl.below hb0
 replace yv := yv.below hb0
 have a0 := A1.c0
 have a1 := A1.c1
 have a2 := A1.c2
 have a3 := A1.c3
 have a4 := A1.c4
 have b0 := A2.c0
 have b1 := A2.c1
 have b2 := A2.c2
 have b3 := A2.c3
 have b4 := A2.c4
 have q : (cpus == cpus) = true := by simp
 have qz : ((zn : Int) == (zn : Int)) = true := by simp
 have ql : ((ln : Int) == (ln : Int)) = true := by simp
 have rz := xz.reach
 have rl := xl.reach
 clear hW0
 go_enter Tryz.func7, Tryz.ntmps7
 go_wp2_with (rw [HW0.out])
 go_at_call 26
 refine (same_eq _ mo mo' mn mc mc' mins xm.len xm.reach xm.at_ ym.at_).mono ?_
 rintro e w2 ⟨rfl, d2, rfl⟩
 obtain ⟨W2, hW2⟩ : ∃ W2, W0.drewN d2 = W2 := ⟨_, rfl⟩
 have hB2 : Below W0.heap.size W0 W2 := by rw [← hW2]; exact below_drawn d2
 rw [hW2]
 clear hW2 a0 a1 a2 a3 a4 b0 b1 b2 b3 b4
 have a4 := (A1.below hB2).c4
 have b4 := (A2.below hB2).c4
 go_wp2_with fail
 go_at_call 27
 refine (sameBlocks_eq _ vo vo' vn vc vc' live (xv.below hB2) (yv.below hB2)).mono ?_
 rintro e w3 ⟨rfl, d3, rfl⟩
 obtain ⟨W3, hW3⟩ : ∃ W3, W2.drewN d3 = W3 := ⟨_, rfl⟩
 have hB3 : Below W0.heap.size W0 W3 := by rw [← hW3]; exact hB2.trans ((below_drawn d3).mono hB2.size)
 rw [hW3]
 clear hW3 a4 b4 HW0
 go_wp2_with fail
 go_loopw [5] (fun iv wr => ∃ k : Nat, k ≤ zn ∧ iv = .int .i64 k ∧ Below W0.heap.size W0 wr) (fun iv _ => zn - (intOf iv).toNat)
 case atStart => exact ⟨0, Nat.zero_le _, rfl, hB3⟩
 case round =>
  obtain ⟨k, hk, rfl, hB⟩ := hrel
  clear hB2 hB3
  have B1 := A1.below hB
  have B2 := A2.below hB
  have a0 := B1.c0
  have b0 := B2.c0
  by_cases hlt : k < zn
  ·obtain ⟨g, off, z, fo, fn, fc, to_, tn, tc, ha, c0, c1, c2, c3, hat, hz⟩ := (xz.below hB).at k hlt
   obtain ⟨g', off', z', fo', fn', fc', to', tn', tc', ha', d0, d1, d2, d3, hat', hz'⟩ := (yz.below hB).at k hlt
   subst ha ha'
   have hzz : z = z' := by
    have := map_getDH hE0.out k .zero
    rw [hz.out, hz'.out] at this
    exact this
   subst hzz
   obtain rfl : fn = fn' := hat.free.len.symm.trans hat'.free.len
   obtain rfl : tn = tn' := hat.types.len.symm.trans hat'.types.len
   go_wp2_with fail
   have SB : Below wr.heap.size wr { wr with drawn := wr.drawn + 1 } := (Below.refl wr.heap.size wr).drew
   have m0 : ∀ wx, Below wr.heap.size wr wx → wx.cell? ⟨w.heap.size, 0, none⟩ = some (.slice (some ⟨g, off, none⟩) zn zc) := fun wx h => keep a0 h
   have m1 : ∀ wx, Below wr.heap.size wr wx → wx.cell? ⟨w.heap.size + 1, 0, none⟩ = some (.slice (some ⟨g', off', none⟩) zn zc') := fun wx h => keep b0 h
   have n0 : ∀ wx, Below wr.heap.size wr wx → wx.cell? ⟨g, off + k * 4, none⟩ = some (.int .i64 z.f) := fun wx h => keep c0 h
   have n1 : ∀ wx, Below wr.heap.size wr wx → wx.cell? ⟨g, off + k * 4 + 1, none⟩ = some (.int .i64 z.t) := fun wx h => keep c1 h
   have n2 : ∀ wx, Below wr.heap.size wr wx → wx.cell? ⟨g, off + k * 4 + 2, none⟩ = some (.slice fo fn fc) := fun wx h => keep c2 h
   have n3 : ∀ wx, Below wr.heap.size wr wx → wx.cell? ⟨g, off + k * 4 + 3, none⟩ = some (.slice to_ tn tc) := fun wx h => keep c3 h
   have o0 : ∀ wx, Below wr.heap.size wr wx → wx.cell? ⟨g', off' + k * 4, none⟩ = some (.int .i64 z.f) := fun wx h => keep d0 h
   have o1 : ∀ wx, Below wr.heap.size wr wx → wx.cell? ⟨g', off' + k * 4 + 1, none⟩ = some (.int .i64 z.t) := fun wx h => keep d1 h
   have o2 : ∀ wx, Below wr.heap.size wr wx → wx.cell? ⟨g', off' + k * 4 + 2, none⟩ = some (.slice fo' fn fc') := fun wx h => keep d2 h
   have o3 : ∀ wx, Below wr.heap.size wr wx → wx.cell? ⟨g', off' + k * 4 + 3, none⟩ = some (.slice to' tn tc') := fun wx h => keep d3 h
   refine wp_region_peel (S := fun wx => Below wr.heap.size wr wx) 11 _ (by kernel_rfl) (by kernel_rfl) rfl ?_
   simp only [List.take_succ_cons, List.take_zero]
   refine tkH 0 (.pointer (some ⟨w.heap.size, 0, none⟩)) SB (h:=?_)
   refine tkH 1 (.slice (some ⟨g, off, none⟩) zn zc) SB (h:=?_)
   refine tkH 2 (.int .i64 (k : Int)) SB (h:=?_)
   refine tkH 3 (.pointer (some ⟨g, off + k * 4, none⟩)) SB (h:=?_)
   refine tkH 4 (.agg #[.int .i64 z.f, .int .i64 z.t, .slice fo fn fc, .slice to_ tn tc]) SB (h:=?_)
   refine tkH 5 (.pointer (some ⟨w.heap.size + 1, 0, none⟩)) SB (h:=?_)
   refine tkH 6 (.slice (some ⟨g', off', none⟩) zn zc') SB (h:=?_)
   refine tkH 7 (.int .i64 (k : Int)) SB (h:=?_)
   refine tkH 8 (.pointer (some ⟨g', off' + k * 4, none⟩)) SB (h:=?_)
   refine tkH 9 (.agg #[.int .i64 z.f, .int .i64 z.t, .slice fo' fn fc', .slice to' tn tc']) SB (h:=?_)
   refine oneH 10 (by kernel_rfl) rfl rfl (fun K1 hK1 => ?_)
   go_simp
   refine (sameZone_eq _ z.f z.t fo fo' to_ to' fn fc fc' tn tc tc' z (hat.below SB) (hat'.below SB)).mono ?_
   rintro e wA ⟨rfl, hbA⟩
   have SA : Below wr.heap.size wr wA := SB.trans (hbA.mono SB.size)
   refine hK1 _ _ SA ?_
   try simp only [Act.put, List.setIfInBounds_toArray, List.set_cons_zero, List.set_cons_succ]
   refine wpAnyH_done (by kernel_rfl) ?_ _
   show Oper.wp _ _ _ _ _ _
   have hBA : Below W0.heap.size W0 wA := hB.trans (SA.mono hB.size)
   clear m0 m1 n0 n1 n2 n3 o0 o1 o2 o3 hat hat' c0 c1 c2 c3 d0 d1 d2 d3 hz hz' SA SB hbA a0 b0 B1 B2 hK1
   go_wp2_with fail
   go_roundw
   case rel => exact ⟨k + 1, by omega, by go_num, hBA⟩
   case measure => simp [intOf]; omega
  go_wp2_with fail
  clear hlt hk
  go_loopw [6] (fun iv wr => ∃ k : Nat, k ≤ ln ∧ iv = .int .i64 k ∧ Below W0.heap.size W0 wr) (fun iv _ => ln - (intOf iv).toNat)
  case atStart => exact ⟨0, Nat.zero_le _, rfl, hB⟩
  case round =>
   clear a0 b0 B1 B2 hB
   obtain ⟨k, hk, rfl, hB⟩ := hrel
   have B1 := A1.below hB
   have B2 := A2.below hB
   have a3 := B1.c3
   have b3 := B2.c3
   by_cases hlt : k < ln
   ·obtain ⟨g, off, c, z, t, pages, po, pn, pc, ha, c0, c1, c2, c3, hat, hz⟩ := (xl.below hB).at k hlt
    obtain ⟨g', off', c', z', t', pages', po', pn', pc', ha', d0, d1, d2, d3, hat', hz'⟩ := (yl.below hB).at k hlt
    subst ha ha'
    have hzz : (⟨c, z, t, pages⟩ : Ls) = ⟨c', z', t', pages'⟩ := by
     have := map_getDH hE3.out k .zero
     rw [hz.out, hz'.out] at this
     exact this
    cases hzz
    obtain rfl : pn = pn' := hat.len.symm.trans hat'.len
    have qc : (c == c) = true := by simp
    have qq : (z == z) = true := by simp
    have qt : (t == t) = true := by simp
    have hb1 := below_box wr (.cells #[.int .i64 c, .int .i64 z, .int .i64 t, .slice po pn pc] 40)
    have X1 := zbox_new wr (.int .i64 c) (.int .i64 z) (.int .i64 t) (.slice po pn pc) 40
    have hb2 := below_box (wr.alloc (.cells #[.int .i64 c, .int .i64 z, .int .i64 t, .slice po pn pc] 40)) (.cells #[.int .i64 c, .int .i64 z, .int .i64 t, .slice po' pn pc'] 40)
    have X2 := zbox_new (wr.alloc (.cells #[.int .i64 c, .int .i64 z, .int .i64 t, .slice po pn pc] 40)) (.int .i64 c) (.int .i64 z) (.int .i64 t) (.slice po' pn pc') 40
    have hbb := hb1.trans (hb2.mono hb1.size)
    replace X1 := X1.below hb2
    replace b3 := keep b3 hb1
    replace d0 := keep d0 hb1
    replace d1 := keep d1 hb1
    replace d2 := keep d2 hb1
    replace d3 := keep d3 hb1
    have x0 := X1.c0
    have x1 := X1.c1
    have x2 := X1.c2
    have x3 := X1.c3
    have u0 := X2.c0
    have u1 := X2.c1
    have u2 := X2.c2
    have u3 := X2.c3
    have HS := same_eq ((wr.alloc (.cells #[.int .i64 c, .int .i64 z, .int .i64 t, .slice po pn pc] 40)).alloc (.cells #[.int .i64 c, .int .i64 z, .int .i64 t, .slice po' pn pc'] 40)) po po' pn pc pc' pages hat.len hat.reach (hat.below hbb).at_ (hat'.below hbb).at_
    clear hat hat' hz hz' B1 B2 hb1 hb2
    go_wp2_with fail
    go_at_call 26
    refine HS.mono ?_
    rintro e w5 ⟨rfl, d5, rfl⟩
    have hB5 := hB.trans ((hbb.trans ((below_drawn d5).mono hbb.size)).mono hB.size)
    clear HS x0 x1 x2 x3 u0 u1 u2 u3 X1 X2 c0 c1 c2 c3 d0 d1 d2 d3 a3 b3 hbb
    go_wp2_with fail
    go_roundw
    case rel => exact ⟨k + 1, by omega, by go_num, hB5⟩
    case measure => simp [intOf]; omega
   go_wp2
   go_ret
   exact ⟨rfl, hb0.trans (hB.mono hb0.size)⟩
def Kit.Hx.none : Hx := ⟨[], .none, 0, 0, [], .none, 0, 0, 0, [], .none, 0, 0, [], .none, 0, 0⟩
theorem none_of3 {f : FuncId} {args : Array Value} {W : World} {c : Int} (h : Calls Tryz.prog f args W fun e w' => e = .returned (.tuple #[.agg #[.slice none 0 0, .slice none 0 0, .int .i64 0, .slice none 0 0, .slice none 0 0], .int .i64 0, .int .i64 c]) ∧ Below W.heap.size W w') :
    Calls Tryz.prog f args W fun e w' => (∃ z : Hx, e = .returned (.tuple #[.agg #[.slice z.zo z.zn z.zc, .slice z.mo z.mn z.mc, .int .i64 z.cpus, .slice z.lo z.ln z.lc, .slice z.vo z.vn z.vc], .int .i64 0, .int .i64 c]) ∧ z.hp = Hx.none.hp ∧ z.At w') ∧ Below W.heap.size W w' := by
 refine h.mono ?_
 rintro e w' ⟨rfl, hb⟩
 exact ⟨⟨Hx.none, rfl, rfl, ⟨Zons.nil _, Nums.nil _, Lsts.nil _, Blks.nil _⟩⟩, hb⟩
theorem pagesAllocs_walk (x : Hx) (cpu o fl : Int) (w : World) (h : IsHeap w x) (_wc : (Lit.int .i64 cpu).wf = true) (_wo : (Lit.int .i64 o).wf = true) (wf : (Lit.int .i64 fl).wf = true) (hT : TabAt w) :
    Calls Tryz.prog 3 #[.agg #[.slice x.zo x.zn x.zc, .slice x.mo x.mn x.mc, .int .i64 x.cpus, .slice x.lo x.ln x.lc, .slice x.vo x.vn x.vc], .int .i64 cpu, .int .i64 o, .int .i64 fl] w fun e w' => e = .returned (.bool true) ∧ Below w.heap.size w w' := by
 have hx := h.at_
 have hf1 := bounds_i64 wf
 obtain ⟨pp, cc, H, HD, HR⟩ : ∃ (pp cc : Int) (H : Hp), (∀ W (y : Hx), y.At W → y.hp = x.hp → TabAt W → Calls Tryz.prog 5 #[.agg #[.slice y.zo y.zn y.zc, .slice y.mo y.mn y.mc, .int .i64 y.cpus, .slice y.lo y.ln y.lc, .slice y.vo y.vn y.vc], .int .i64 cpu, .int .i64 o, .int .i64 fl] W fun e w' => (∃ z : Hx, e = .returned (.tuple #[.agg #[.slice z.zo z.zn z.zc, .slice z.mo z.mn z.mc, .int .i64 z.cpus, .slice z.lo z.ln z.lc, .slice z.vo z.vn z.vc], .int .i64 pp, .int .i64 cc]) ∧ z.hp = H ∧ z.At w') ∧ Below W.heap.size W w') ∧ (∀ W, x.At W → Calls Tryz.prog 6 #[.agg #[.slice x.zo x.zn x.zc, .slice x.mo x.mn x.mc, .int .i64 x.cpus, .slice x.lo x.ln x.lc, .slice x.vo x.vn x.vc], .int .i64 cpu, .int .i64 o, .int .i64 fl] W fun e w' => (∃ z : Hx, e = .returned (.tuple #[.agg #[.slice z.zo z.zn z.zc, .slice z.mo z.mn z.mc, .int .i64 z.cpus, .slice z.lo z.ln z.lc, .slice z.vo z.vn z.vc], .int .i64 pp, .int .i64 cc]) ∧ z.hp = H ∧ z.At w') ∧ Below W.heap.size W w') := by
  by_cases hM : HMay x.hp
  ·by_cases hc : 0 ≤ cpu ∧ cpu ≤ x.hp.cpus - 1
   ·by_cases ho : 0 ≤ o ∧ o ≤ 4
    ·by_cases hf : flagsOk fl
     ·cases hr : find2H x.hp cpu o fl with
      | none =>
       refine ⟨0, 6, Hx.none.hp, fun W y hy ey hTW => none_of3 ?_, fun W hW => none_of3 ?_⟩
       ·refine (pAlloc_ok W y cpu o fl hy (by rw [ey]; exact hM) hTW (by have g := hc; rw [← ey] at g; exact g) ho hf1.1 hf1.2 hf).mono fun e w1 h1 => ?_
        rw [ey, hr] at h1
        obtain ⟨h2 | ⟨_, _, _, h2, _⟩, hb⟩ := h1
        ·exact ⟨h2.2, hb⟩
        cases h2
       refine (heapAlloc_ok W x cpu o fl hW hM hc ho hf).mono fun e w1 h1 => ?_
       rw [hr] at h1
       obtain ⟨h2 | ⟨_, _, _, h2, _⟩, hb⟩ := h1
       ·exact ⟨h2.2, hb⟩
       cases h2
      | some r =>
       obtain ⟨G, p⟩ := r
       refine ⟨p, 0, { G with live := addB G.live ⟨p, o, typeF fl⟩ }, fun W y hy ey hTW => ?_, fun W hW => ?_⟩
       ·refine (pAlloc_ok W y cpu o fl hy (by rw [ey]; exact hM) hTW (by have g := hc; rw [← ey] at g; exact g) ho hf1.1 hf1.2 hf).mono fun e w1 h1 => ?_
        rw [ey, hr] at h1
        obtain ⟨⟨h2, _⟩ | ⟨y2, G2, p2, h2, rfl, h3, h4⟩, hb⟩ := h1
        ·cases h2
        obtain ⟨rfl, rfl⟩ : G = G2 ∧ p = p2 := by simpa using h2
        exact ⟨⟨y2, rfl, h4, h3⟩, hb⟩
       refine (heapAlloc_ok W x cpu o fl hW hM hc ho hf).mono fun e w1 h1 => ?_
       rw [hr] at h1
       obtain ⟨⟨h2, _⟩ | ⟨y2, G2, p2, h2, rfl, h3, h4⟩, hb⟩ := h1
       ·cases h2
       obtain ⟨rfl, rfl⟩ : G = G2 ∧ p = p2 := by simpa using h2
       exact ⟨⟨y2, rfl, h4, h3⟩, hb⟩
     refine ⟨0, 3, Hx.none.hp, ?_, ?_⟩
     ·exact fun W y hy ey hTW => none_of3 (pAlloc_no3 W y cpu o fl hy (by rw [ey]; exact hM) (by have g := hc; rw [← ey] at g; exact g) ho hf1.1 hf1.2 hf)
     exact fun W hW => none_of3 (heapAlloc_no3 W x cpu o fl hW hM hc ho hf)
    refine ⟨0, 1, Hx.none.hp, ?_, ?_⟩
    ·exact fun W y hy ey hTW => none_of3 (pAlloc_no1b W y cpu o fl hy (by rw [ey]; exact hM) (by have g := hc; rw [← ey] at g; exact g) ho)
    exact fun W hW => none_of3 (heapAlloc_no1b W x cpu o fl hW hM hc ho)
   refine ⟨0, 1, Hx.none.hp, ?_, ?_⟩
   ·exact fun W y hy ey hTW => none_of3 (pAlloc_no1a W y cpu o fl hy (by rw [ey]; exact hM) (by have g := hc; rw [← ey] at g; exact g))
   exact fun W hW => none_of3 (heapAlloc_no1a W x cpu o fl hW hM hc)
  refine ⟨0, 8, Hx.none.hp, ?_, ?_⟩
  ·exact fun W y hy ey hTW => none_of3 (pAlloc_no8 W y cpu o fl hy (by rw [ey]; exact hM))
  exact fun W hW => none_of3 (heapAlloc_no8 W x cpu o fl hW hM)
 have B0 := Below.refl w.heap.size w
 refine sx_enter (args := [_, _, _, _]) 54 Tryz.func3 rfl rfl rfl ?_
 refine vS (vR ?_); intro A f
 refine l_box f rfl rfl rfl rfl rfl ?_; clear f A; intro b1 W2 eb1 hb3 rb1 A f; dsimp only [Value.cells] at rb1
 have z_B0_b1 := B0.size; rw [eb1] at z_B0_b1
 replace B0 := Below.next B0 hb3
 revert A; refine vla (h:=vW (vS (vR (vl5 (rowq rb1) (h:=?_))))); intro A f
 refine l_call f rfl rfl rfl (IsCall.mk' (cap := []) rfl rfl rfl) (pl rfl) (heapCopy_own _ x (hx.below B0)) ?_
 clear f A
 rintro _ W4 ⟨⟨k, rfl, ek, hk, -⟩, hb5⟩
 refine ⟨_, rfl, ?_⟩
 intro A f
 replace B0 := Below.next B0 hb5; replace rb1 := row_next rb1 hb5
 replace hk := hk.at_
 refine l_as (z := .agg #[.slice none 0 0, .slice none 0 0, .int .i64 0, .slice none 0 0, .slice none 0 0]) f rfl rfl rfl rfl (by kernel_rfl) rfl rfl (fun _ => rfl) (fun _ => rfl) rfl (by intro u hu; simp [Value.cells] at hu; rcases hu with rfl | rfl | rfl | rfl | rfl <;> rfl) ?_; clear f A; intro b6 W7 eb6 hb8 rb6 A f
 dsimp only [Value.cells] at rb6
 have hpb6 := hb8
 have o_b1_b6 : b1 < b6 := by have := row_lt rb1; omega
 have z_B0_b6 := B0.size; rw [eb6] at z_B0_b6
 replace B0 := Below.next B0 hb8; replace hk := hk.below hb8; replace rb1 := row_next rb1 hb8
 revert A; refine vW (vS (vR (vl5 (rowq rb6) (h:=vlm (h:=vlm (h:=vlm (h:=?_))))))); intro A f
 refine l_call f rfl rfl rfl (IsCall.mk' (cap := []) rfl rfl rfl) (pl rfl) (HD _ k hk ek (hT.below B0)) ?_
 clear f A
 rintro _ W9 ⟨⟨y, rfl, ey, hy⟩, hb10⟩
 refine ⟨_, rfl, ?_⟩
 intro A f
 replace B0 := Below.next B0 hb10; replace hk := hk.below hb10; replace rb1 := row_next rb1 hb10; replace rb6 := row_next rb6 hb10
 revert A; refine vlm (h:=vle (h:=vle (h:=vle (h:=?_)))); intro A f
 refine l_as (z := .agg #[.slice none 0 0, .slice none 0 0, .int .i64 0, .slice none 0 0, .slice none 0 0]) f rfl rfl rfl rfl (by kernel_rfl) rfl rfl (fun _ => rfl) (fun _ => rfl) rfl (by intro u hu; simp [Value.cells] at hu; rcases hu with rfl | rfl | rfl | rfl | rfl <;> rfl) ?_; clear f A; intro b11 W12 eb11 hb13 rb11 A f
 dsimp only [Value.cells] at rb11
 have hpb11 := hb13
 have o_b1_b11 : b1 < b11 := by have := row_lt rb1; omega
 have o_b6_b11 : b6 < b11 := by have := row_lt rb6; omega
 have z_B0_b11 := B0.size; rw [eb11] at z_B0_b11
 replace B0 := Below.next B0 hb13; replace hk := hk.below hb13; replace hy := hy.below hb13; replace rb1 := row_next rb1 hb13; replace rb6 := row_next rb6 hb13
 revert A; refine vla (h:=vla (h:=vW (vS (vR (vl5 (rowq rb1) (h:=vlm (h:=vlm (h:=vlm (h:=?_))))))))); intro A f
 refine l_call f rfl rfl rfl (IsCall.mk' (cap := []) rfl rfl rfl) (pl rfl) (HR _ (hx.below B0)) ?_
 clear f A
 rintro _ W14 ⟨⟨z, rfl, ez, hz⟩, hb15⟩
 refine ⟨_, rfl, ?_⟩
 intro A f
 replace B0 := Below.next B0 hb15; replace hk := hk.below hb15; replace hy := hy.below hb15; replace rb1 := row_next rb1 hb15; replace rb6 := row_next rb6 hb15; replace rb11 := row_next rb11 hb15
 revert A; refine vlm (h:=vle (h:=vle (h:=vle (h:=?_)))); intro A f
 refine l_as (z := .agg #[.slice none 0 0, .slice none 0 0, .int .i64 0, .slice none 0 0, .slice none 0 0]) f rfl rfl rfl rfl (by kernel_rfl) rfl rfl (fun _ => rfl) (fun _ => rfl) rfl (by intro u hu; simp [Value.cells] at hu; rcases hu with rfl | rfl | rfl | rfl | rfl <;> rfl) ?_; clear f A; intro b16 W17 eb16 hb18 rb16 A f
 dsimp only [Value.cells] at rb16
 have hpb16 := hb18
 have o_b1_b16 : b1 < b16 := by have := row_lt rb1; omega
 have o_b6_b16 : b6 < b16 := by have := row_lt rb6; omega
 have o_b11_b16 : b11 < b16 := by have := row_lt rb11; omega
 have z_B0_b16 := B0.size; rw [eb16] at z_B0_b16
 replace B0 := Below.next B0 hb18; replace hk := hk.below hb18; replace hy := hy.below hb18; replace hz := hz.below hb18; replace rb1 := row_next rb1 hb18; replace rb6 := row_next rb6 hb18; replace rb11 := row_next rb11 hb18
 revert A; refine vla (h:=vla (h:=vW (vS (vR (vlm (h:=vlm (h:=vlb (y_eql rfl rfl rfl) (h:=?_) (g:=?_))))))))
 ·intro c19
  refine vlm (h:=vlm (h:=vlm (h:=vlb (y_eql rfl rfl rfl) (h:=?_) (g:=?_))))
  ·intro c20
   refine vlp (h:=vlm (h:=vl5 (rowq rb11) (h:=vl5 (rowq rb16) (h:=vlc (sameHeap_eq _ y z hy hz (ey.trans ez.symm)) (h:=?_))))); intro W21 hb22; replace B0 := Below.next B0 hb22; replace hk := hk.below hb22; replace hy := hy.below hb22; replace hz := hz.below hb22; replace rb1 := row_next rb1 hb22; replace rb6 := row_next rb6 hb22; replace rb11 := row_next rb11 hb22; replace rb16 := row_next rb16 hb22
   refine vlp (h:=vlm (h:=vl5 (rowq rb6) (h:=vl5 (rowq rb1) (h:=vlc (sameHeap_eq _ k x hk (hx.below B0) (ek)) (h:=?_))))); intro W23 hb24; replace B0 := Below.next B0 hb24; replace hk := hk.below hb24; replace hy := hy.below hb24; replace hz := hz.below hb24; replace rb1 := row_next rb1 hb24; replace rb6 := row_next rb6 hb24; replace rb11 := row_next rb11 hb24; replace rb16 := row_next rb16 hb24
   refine vlp (h:=vla (h:=vW (vE ?_))); intro A f
   refine x_ret1 f rfl rfl ?_
   exact ⟨rfl, B0⟩
  intro c20; exfalso; omega
 intro c19; exfalso; omega
end Go.Proofs.YtbjlbmofdnkmiaaGreatDoor
