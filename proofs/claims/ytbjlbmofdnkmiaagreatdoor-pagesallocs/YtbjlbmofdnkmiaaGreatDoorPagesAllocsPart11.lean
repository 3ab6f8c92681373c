/-
  OWN TEXTS.
-/
import Derived.Test.YtbjlbmofdnkmiaaGreatDoorPagesAllocsPart10
import Derived.KernelRfl
set_option maxRecDepth 10000
set_option maxHeartbeats 4000000
namespace Go.Proofs.YtbjlbmofdnkmiaaGreatDoor
open Go Go.RowKit Go.Proofs.YtbjlbmofdnkmiaaGreatDoor.Kit
def RetOwn (B : Nat) (w' : World) (z : Zn) (fn tn : Nat) (e : Ending) : Prop :=
 ∃ fo fc to_ tc, e = .returned (.agg #[.int .i64 z.f, .int .i64 z.t, .slice fo fn fc, .slice to_ tn tc]) ∧ w'.ownsRow B 53 3 (.slice fo fn fc) fn (bvals z.free) ∧ w'.ownsRow B 3 1 (.slice to_ tn tc) tn (vals z.types) ∧ ∀ a a', fo = some a → to_ = some a' → a.block ≠ a'.block
theorem zoneCopy_own (w : World) (fo : Option Addr) (fn fc : Nat) (to_ : Option Addr) (tn tc : Nat) (z : Zn) (h : ZnAt w fo fn to_ tn z) :
    Calls Tryz.prog 10 #[.agg #[.int .i64 z.f, .int .i64 z.t, .slice fo fn fc, .slice to_ tn tc]] w fun e w' => RetOwn w.heap.size w' z fn tn e ∧ Below w.heap.size w w' := by
 obtain ⟨f, t, free, types⟩ := z
 obtain ⟨hf, ht⟩ := h
 dsimp only at hf ht ⊢
 obtain ⟨W0, hW0⟩ : ∃ W0, (w.alloc (.cells #[.int .i64 f, .int .i64 t, .slice fo fn fc, .slice to_ tn tc] 37)).alloc (.cells #[.int .i64 0, .int .i64 0, .slice none 0 0, .slice none 0 0] 37) = W0 := ⟨_, rfl⟩
 have hb0 : Below w.heap.size w W0 := by rw [← hW0]; exact ((Below.refl _ _).alloc (Nat.le_refl _) _).alloc (by simp) _
 have Z0 : ZBox W0 w.heap.size (.int .i64 f) (.int .i64 t) (.slice fo fn fc) (.slice to_ tn tc) := by rw [← hW0]; exact (zbox_new w _ _ _ _ _).below (below_box _ _)
 have R0 : Res4 W0 (w.heap.size + 1) := by
  rw [← hW0]
  have := zbox_new (w.alloc (.cells #[.int .i64 f, .int .i64 t, .slice fo fn fc, .slice to_ tn tc] 37)) (.int .i64 0) (.int .i64 0) (.slice none 0 0) (.slice none 0 0) 37
  have h2 := this.res
  simpa using h2
 have hs0 : w.heap.size + 2 = W0.heap.size := by rw [← hW0]; simp
 have S0 : CopyS w W0 W0 := ⟨Below.refl _ _, R0, Nat.le_refl _⟩
 have hz := Z0.lt
 have q0 : ∀ wx, CopyS w W0 wx → wx.cell? ⟨w.heap.size, 0, none⟩ = some (.int .i64 f) := fun wx h => (h.b.cell (p := ⟨w.heap.size, 0, none⟩) (show w.heap.size < w.heap.size + 1 by omega)).trans Z0.c0
 have q1 : ∀ wx, CopyS w W0 wx → wx.cell? ⟨w.heap.size, 1, none⟩ = some (.int .i64 t) := fun wx h => (h.b.cell (p := ⟨w.heap.size, 1, none⟩) (show w.heap.size < w.heap.size + 1 by omega)).trans Z0.c1
 have q2 : ∀ wx, CopyS w W0 wx → wx.cell? ⟨w.heap.size, 2, none⟩ = some (.slice fo fn fc) := fun wx h => (h.b.cell (p := ⟨w.heap.size, 2, none⟩) (show w.heap.size < w.heap.size + 1 by omega)).trans Z0.c2
 have q3 : ∀ wx, CopyS w W0 wx → wx.cell? ⟨w.heap.size, 3, none⟩ = some (.slice to_ tn tc) := fun wx h => (h.b.cell (p := ⟨w.heap.size, 3, none⟩) (show w.heap.size < w.heap.size + 1 by omega)).trans Z0.c3
 have d0 : ∀ wx, CopyS w W0 wx → wx.cell? ⟨w.heap.size + 1, 0, none⟩ = some (cont wx (w.heap.size + 1) 0) := fun wx h => cont_eq h.r.d0
 have d1 : ∀ wx, CopyS w W0 wx → wx.cell? ⟨w.heap.size + 1, 1, none⟩ = some (cont wx (w.heap.size + 1) 1) := fun wx h => cont_eq h.r.d1
 have d2 : ∀ wx, CopyS w W0 wx → wx.cell? ⟨w.heap.size + 1, 2, none⟩ = some (cont wx (w.heap.size + 1) 2) := fun wx h => cont_eq h.r.d2
 have d3 : ∀ wx, CopyS w W0 wx → wx.cell? ⟨w.heap.size + 1, 3, none⟩ = some (cont wx (w.heap.size + 1) 3) := fun wx h => cont_eq h.r.d3
 have z0 : ∀ wx, CopyS w W0 wx → wx.frozen? ⟨w.heap.size + 1, 0, none⟩ = false := fun wx h => h.r.z0
 have z1 : ∀ wx, CopyS w W0 wx → wx.frozen? ⟨w.heap.size + 1, 1, none⟩ = false := fun wx h => h.r.z1
 have z2 : ∀ wx, CopyS w W0 wx → wx.frozen? ⟨w.heap.size + 1, 2, none⟩ = false := fun wx h => h.r.z2
 have z3 : ∀ wx, CopyS w W0 wx → wx.frozen? ⟨w.heap.size + 1, 3, none⟩ = false := fun wx h => h.r.z3
 have HB : Hid (∀ W, CopyS w W0 W → Calls Tryz.prog 9 #[.slice fo fn fc] W fun e w' => ∃ bo c, e = .returned (.slice bo fn c) ∧ (w'.ownsRow W0.heap.size 53 3 (.slice bo fn c) fn (bvals free) ∧ Below W.heap.size W w') ∧ CopyS w W0 w') := fun W hS => by
  have hs := hS.s
  refine (blocksCopy_any W fo fn fc free (hf.below (hb0.trans (hS.b.mono (by omega))))).mono ?_
  rintro e w' ⟨bo, c, rfl, own, hb⟩
  exact ⟨bo, c, rfl, ⟨owns_weaken own hs, hb⟩, hS.step hb (by omega)⟩
 have HW : Hid (∀ W, CopyS w W0 W → Calls Tryz.prog 8 #[.slice to_ tn tc] W fun e w' => ∃ bo c, e = .returned (.slice bo tn c) ∧ (w'.ownsRow W.heap.size 3 1 (.slice bo tn c) tn (vals types) ∧ W0.heap.size ≤ W.heap.size ∧ Below W.heap.size W w') ∧ CopyS w W0 w') := fun W hS => by
  have hs := hS.s
  refine (words_any W to_ tn tc types ht.len ht.reach (ht.below (hb0.trans (hS.b.mono (by omega)))).at_).mono ?_
  rintro e w' ⟨bo, c, rfl, own, hb⟩
  exact ⟨bo, c, rfl, ⟨own, hs, hb⟩, hS.step hb (by omega)⟩
 go_enter Tryz.func10, Tryz.ntmps10
 go_wp2_with fail
 clear hf ht hW0 Z0 R0 hz
 go_region_held3 (fun wx => CopyS w W0 wx) (first | assumption | exact CopyS.drew (by assumption) | exact CopyS.store (by assumption) _ _ _ _)
  (first
   | (go_at_call 9; refine (HB.out _ ?_).mono ?_; assumption; rintro e w3 ⟨bo, c, rfl, g1, hS3⟩)
   | (go_at_call 8; refine (HW.out _ ?_).mono ?_; assumption; rintro e w4 ⟨bo2, c2, rfl, g2, hS4⟩))
 obtain ⟨g11, g13⟩ := g1
 obtain ⟨g21, g22, g23⟩ := g2
 have hR4 := hS4.r
 have hB4 := hb0.trans (hS4.b.mono (Nat.le_succ _))
 have hap : ∀ a a', bo = some a → bo2 = some a' → a.block ≠ a'.block := fun a a' h1 h2 => by
  have q1 := owns_fresh g21 a' h2
  have q2 : a.block < w3.heap.size := by
   rcases g11.2 with ⟨e1, _⟩ | ⟨g, cp, cur, e1, _, hg, _⟩
   ·simp only [Value.slice.injEq] at e1
    rw [e1.1] at h1
    cases h1
   simp only [Value.slice.injEq] at e1
   rw [e1.1] at h1
   cases h1
   exact (Array.getElem?_eq_some_iff.1 hg).1
  omega
 have g12 := owns_below g11 g23 (Nat.le_refl _)
 have g24 := owns_weaken g21 g22
 have hs4 := hS4.s
 clear q0 q1 q2 q3 d0 d1 d2 d3 z0 z1 z2 z3 HB HW S0 hS3 hS4
 go_wp2
 obtain ⟨k0, k1, k2, k3⟩ := res4 hR4 (.int .i64 f) (.int .i64 t) (.slice bo fn c) (.slice bo2 tn c2)
 have hbt := but4 w4 (w.heap.size + 1) (.int .i64 f) (.int .i64 t) (.slice bo fn c) (.slice bo2 tn c2)
 exact bodyPost_ret (v := .agg #[.int .i64 f, .int .i64 t, .slice bo fn c, .slice bo2 tn c2]) (by simp [results, Tryz.results10, go_sem, k0, k1, k2, k3]) rfl ⟨⟨bo, c, bo2, c2, rfl, owns_weaken (row_but g12 hbt (by omega)) (by omega), owns_weaken (row_but g24 hbt (by omega)) (by omega), hap⟩, hB4.trans (hbt.below (by omega) (by omega))⟩
def lowB (l : List Bk) (o t : Int) : Option Bk := l.find? fun b => decide (b.o = o ∧ b.t = t)
theorem lowB_snoc (l : List Bk) (o t : Int) (b : Bk) : lowB (l ++ [b]) o t = match lowB l o t with | some x => some x | none => if b.o = o ∧ b.t = t then some b else none := by
 unfold lowB
 rw [List.find?_append]
 cases l.find? (fun b => decide (b.o = o ∧ b.t = t)) with
 | some x => rfl
 | none =>
  by_cases h : b.o = o ∧ b.t = t
  ·simp [h]
  simp [h]
structure TBox (W : World) (b : Nat) (q : Bk) : Prop where
 c0 : W.cell? ⟨b, 0, none⟩ = some (.int .i64 q.a)
 c1 : W.cell? ⟨b, 1, none⟩ = some (.int .i64 q.o)
 c2 : W.cell? ⟨b, 2, none⟩ = some (.int .i64 q.t)
 z0 : W.frozen? ⟨b, 0, none⟩ = false
 z1 : W.frozen? ⟨b, 1, none⟩ = false
 z2 : W.frozen? ⟨b, 2, none⟩ = false
theorem TBox.below {W W' : World} {b : Nat} {q : Bk} (h : TBox W b q) (hb : Below W.heap.size W W') : TBox W' b q := by
 have hlt := World.block_lt_of_cell? W _ h.c0
 exact ⟨keep h.c0 hb, keep h.c1 hb, keep h.c2 hb, (hb.frozen (p := ⟨b, 0, none⟩) hlt).trans h.z0, (hb.frozen (p := ⟨b, 1, none⟩) hlt).trans h.z1, (hb.frozen (p := ⟨b, 2, none⟩) hlt).trans h.z2⟩
theorem TBox.set {W : World} {b : Nat} {q : Bk} (h : TBox W b q) (r : Bk) : TBox (((W.setCell ⟨b, 0, none⟩ (.int .i64 r.a)).setCell ⟨b, 1, none⟩ (.int .i64 r.o)).setCell ⟨b, 2, none⟩ (.int .i64 r.t)) b r := by
 have o : ∀ (X : World) (i j : Nat) (v : Value), i ≠ j → (X.setCell ⟨b, i, none⟩ v).cell? ⟨b, j, none⟩ = X.cell? ⟨b, j, none⟩ := fun X i j v hij => World.cell?_setCell_other _ _ _ _ (by intro g; cases g; exact hij rfl)
 refine ⟨?_, ?_, ?_, by simpa using h.z0, by simpa using h.z1, by simpa using h.z2⟩
 ·rw [o _ 2 0 _ (by decide), o _ 1 0 _ (by decide)]
  exact World.cell?_setCell_same _ _ _ h.c0
 ·rw [o _ 2 1 _ (by decide)]
  exact World.cell?_setCell_same _ _ _ ((o _ 0 1 _ (by decide)).trans h.c1)
 exact World.cell?_setCell_same _ _ _ ((o _ 1 2 _ (by decide)).trans ((o _ 0 2 _ (by decide)).trans h.c2))
theorem but3 (W : World) (b : Nat) (x y u : Value) : But b W (((W.setCell ⟨b, 0, none⟩ x).setCell ⟨b, 1, none⟩ y).setCell ⟨b, 2, none⟩ u) := ((((But.refl b W).setCell x).setCell y).setCell u)
theorem TBox.but {W W' : World} {b c : Nat} {q : Bk} (h : TBox W b q) (hb : But c W W') (hne : b ≠ c) : TBox W' b q := by
 have hbk := hb.block b (World.block_lt_of_cell? W _ h.c0) hne
 exact ⟨hb.cell h.c0 hne, hb.cell h.c1 hne, hb.cell h.c2 hne, (World.frozen?_of_block (a := ⟨b, 0, none⟩) hbk).trans h.z0, (World.frozen?_of_block (a := ⟨b, 1, none⟩) hbk).trans h.z1, (World.frozen?_of_block (a := ⟨b, 2, none⟩) hbk).trans h.z2⟩
theorem tbox_new (W : World) (q : Bk) (t : TypeId) : TBox (W.alloc (.cells #[.int .i64 q.a, .int .i64 q.o, .int .i64 q.t] t)) W.heap.size q := ⟨by simp, by simp, by simp, by simp, by simp, by simp⟩
def FoundB (l : List Bk) (o t : Int) (fd : Bool) (q : Bk) : Prop := if fd = true then lowB l o t = some q else lowB l o t = none ∧ q = Bk.zero
theorem lowestOf_any (w : World) (ao : Option Addr) (n cap : Nat) (l : List Bk) (o t : Int) (h : Blks w ao n l) (hrise : ∀ i j, i < j → j < l.length → (l.getD i .zero).a ≤ (l.getD j .zero).a) :
    Calls Tryz.prog 75 #[.slice ao n cap, .int .i64 o, .int .i64 t] w fun e w' => (∃ fd q, e = .returned (.tuple #[.agg #[.int .i64 q.a, .int .i64 q.o, .int .i64 q.t], .bool fd]) ∧ FoundB l o t fd q) ∧ Below w.heap.size w w' := by
 obtain ⟨hn, hr, hx⟩ := h
 obtain ⟨W0, hW0⟩ : ∃ W0, (w.alloc (.cells #[.int .i64 0, .int .i64 0, .int .i64 0] 53)).alloc (.cells #[.int .i64 0, .int .i64 0, .int .i64 0] 53) = W0 := ⟨_, rfl⟩
 have hb0 : Below w.heap.size w W0 := by rw [← hW0]; exact ((Below.refl _ _).alloc (Nat.le_refl _) _).alloc (by simp) _
 have T0 : TBox W0 (w.heap.size + 1) .zero := by
  rw [← hW0]
  have := tbox_new (w.alloc (.cells #[.int .i64 0, .int .i64 0, .int .i64 0] 53)) .zero 53
  simpa [Bk.zero] using this
 have U0 : TBox W0 w.heap.size .zero := by
  rw [← hW0]
  have := (tbox_new w .zero 53).below (below_box _ (.cells #[.int .i64 0, .int .i64 0, .int .i64 0] 53))
  simpa [Bk.zero] using this
 have HW0 : Hid _ := hW0
 clear hW0
 go_enter Tryz.func75, Tryz.ntmps75
 go_wp2
 rw [HW0.out]
 clear HW0
 go_loopw [9, 10] (fun fv i wr => ∃ (k : Nat) (fd : Bool) (q : Bk), k ≤ n ∧ fv = .bool fd ∧ i = .int .i64 k ∧ FoundB (l.take k) o t fd q ∧ TBox wr (w.heap.size + 1) q ∧ TBox wr w.heap.size .zero ∧ Below w.heap.size w wr) (fun _ i _ => n - (intOf i).toNat)
 case atStart => exact ⟨0, false, .zero, Nat.zero_le _, rfl, rfl, ⟨rfl, rfl⟩, T0, U0, hb0⟩
 case round =>
  obtain ⟨k, fd, q, hk, rfl, rfl, hL, T, U, hb⟩ := hrel
  clear T0 U0 hb0
  have e0 := T.c0
  by_cases hlt : k < n
  ·obtain ⟨b, of, x, y, u, rfl, c1, c2, c3, hX⟩ := (hx.below hb).at k (by omega)
   have htk := take_getD l k (by omega) hX.out
   have hno : ¬ (y = o ∧ u = t) → FoundB (l.take (k + 1)) o t fd q := fun g => by
    unfold FoundB at hL ⊢
    rw [htk, lowB_snoc]
    cases fd with
    | true => simp only [if_true] at hL ⊢; rw [hL]
    | false => simp only [Bool.false_eq_true, if_false] at hL ⊢; rw [hL.1]; dsimp only; rw [if_neg g]; exact ⟨rfl, hL.2⟩
   by_cases g1 : y = o
   ·have g1b : (y == o) = true := by simpa using g1
    by_cases g2 : u = t
    ·have g2b : (u == t) = true := by simpa using g2
     cases fd with
     | true =>
      have hq : lowB (l.take k) o t = some q := by simpa [FoundB] using hL
      have hge : q.a ≤ x := by
       have hm := List.mem_of_find?_eq_some hq
       obtain ⟨i, hi, he⟩ := List.getElem_of_mem hm
       have hi' : i < k := by simp at hi; omega
       have h1 := hrise i k hi' (by omega)
       rw [hX.out] at h1
       have h2 : l.getD i .zero = q := by rw [← he, List.getElem_take, List.getD_eq_getElem?_getD, List.getElem?_eq_getElem (by omega)]; rfl
       rw [h2] at h1
       exact h1
      have hlb : decide (x < q.a) = false := decide_eq_false (by omega)
      have hL' : FoundB (l.take (k + 1)) o t true q := by unfold FoundB; rw [htk, lowB_snoc, hq]; rfl
      clear hL hq hno htk hX hge g1 g2
      go_wp2
      go_quiet (fail)
      have hbq := below_drawn (w := wr) nq
      have T1 := T.below hbq
      have U1 := U.below hbq
      have hb1 := hb.trans (hbq.mono hb.size)
      replace c1 := keep c1 hbq
      replace c2 := keep c2 hbq
      replace c3 := keep c3 hbq
      obtain ⟨W1, hW1⟩ : ∃ W1, wr.drewN nq = W1 := ⟨_, rfl⟩
      rw [hW1] at T1 U1 hb1 c1 c2 c3 ⊢
      clear hW1 T U hb
      clear hbq c1 c2 c3 e0
      go_wp2
      go_roundw
      case rel => exact ⟨k + 1, true, q, by omega, rfl, by go_num, hL', T1, U1, hb1⟩
      case measure => simp [intOf]; omega
     | false =>
      have hq : lowB (l.take k) o t = none := by have := hL; simp [FoundB] at this; exact this.1
      have hL' : FoundB (l.take (k + 1)) o t true ⟨x, y, u⟩ := by
       have h9 : lowB (l.take (k + 1)) o t = some ⟨x, y, u⟩ := by rw [htk, lowB_snoc, hq]; exact if_pos ⟨g1, g2⟩
       unfold FoundB; rw [if_pos rfl]; exact h9
      clear hL hq hno htk g1 g2
      go_wp2
      go_quiet (fail)
      have hbq := below_drawn (w := wr) nq
      have T1 := T.below hbq
      have U1 := U.below hbq
      have hb1 := hb.trans (hbq.mono hb.size)
      replace c1 := keep c1 hbq
      replace c2 := keep c2 hbq
      replace c3 := keep c3 hbq
      obtain ⟨W1, hW1⟩ : ∃ W1, wr.drewN nq = W1 := ⟨_, rfl⟩
      rw [hW1] at T1 U1 hb1 c1 c2 c3 ⊢
      clear hW1 T U hb
      have s0 := T1.c0
      have s1 := T1.c1
      have s2 := T1.c2
      have r0 := T1.z0
      have r1 := T1.z1
      have r2 := T1.z2
      have T2 := T1.set ⟨x, y, u⟩
      have hbt := but3 W1 (w.heap.size + 1) (.int .i64 x) (.int .i64 y) (.int .i64 u)
      have U2 := U1.but hbt (by omega)
      have hb2 := hb1.trans (hbt.below (B := w.heap.size) (by omega) hb1.size)
      dsimp only at T2
      clear hbq e0 T1 U1 hb1 hbt
      go_wp2
      go_roundw
      case rel => exact ⟨k + 1, true, ⟨x, y, u⟩, by omega, rfl, by go_num, hL', T2, U2, hb2⟩
      case measure => simp [intOf]; omega
    have g2b : (u == t) = false := by simpa using g2
    have hL' := hno (fun g => g2 g.2)
    clear hL hno htk hX g1 g2
    go_wp2
    go_quiet (fail)
    have hbq := below_drawn (w := wr) nq
    have T1 := T.below hbq
    have U1 := U.below hbq
    have hb1 := hb.trans (hbq.mono hb.size)
    replace c1 := keep c1 hbq
    replace c2 := keep c2 hbq
    replace c3 := keep c3 hbq
    obtain ⟨W1, hW1⟩ : ∃ W1, wr.drewN nq = W1 := ⟨_, rfl⟩
    rw [hW1] at T1 U1 hb1 c1 c2 c3 ⊢
    clear hW1 T U hb
    clear hbq c1 c2 c3 e0
    go_wp2
    go_roundw
    case rel => exact ⟨k + 1, fd, q, by omega, rfl, by go_num, hL', T1, U1, hb1⟩
    case measure => simp [intOf]; omega
   have g1b : (y == o) = false := by simpa using g1
   have hL' := hno (fun g => g1 g.1)
   clear hL hno htk hX g1
   go_wp2
   go_quiet (fail)
   have hbq := below_drawn (w := wr) nq
   have T1 := T.below hbq
   have U1 := U.below hbq
   have hb1 := hb.trans (hbq.mono hb.size)
   replace c1 := keep c1 hbq
   replace c2 := keep c2 hbq
   replace c3 := keep c3 hbq
   obtain ⟨W1, hW1⟩ : ∃ W1, wr.drewN nq = W1 := ⟨_, rfl⟩
   rw [hW1] at T1 U1 hb1 c1 c2 c3 ⊢
   clear hW1 T U hb
   clear hbq c1 c2 c3 e0
   go_wp2
   go_roundw
   case rel => exact ⟨k + 1, fd, q, by omega, rfl, by go_num, hL', T1, U1, hb1⟩
   case measure => simp [intOf]; omega
  obtain rfl : k = n := by omega
  rw [List.take_of_length_le (by omega)] at hL
  have e1 := T.c1
  have e2 := T.c2
  have s0 := U.c0
  have s1 := U.c1
  have s2 := U.c2
  have r0 := U.z0
  have r1 := U.z1
  have r2 := U.z2
  have U2 := U.set q
  have hbt := but3 wr w.heap.size (.int .i64 q.a) (.int .i64 q.o) (.int .i64 q.t)
  have hb2 := hb.trans (hbt.below (Nat.le_refl _) hb.size)
  have HL : Hid _ := hL
  clear T U hb hbt hL
  go_wp2
  have k0 := U2.c0
  have k1 := U2.c1
  have k2 := U2.c2
  exact bodyPost_ret (v := .tuple #[.agg #[.int .i64 q.a, .int .i64 q.o, .int .i64 q.t], .bool fd]) (by simp [results, Tryz.results75, go_sem, k0, k1, k2]) rfl ⟨⟨fd, q, rfl, HL.out⟩, hb2⟩
end Go.Proofs.YtbjlbmofdnkmiaaGreatDoor
namespace Go.Proofs.YtbjlbmofdnkmiaaGreatDoor.Kit
def typeZ (z : Zn) (a : Int) : Int := z.types.getD ((a - z.f) / 8).toNat 0
def zone0 : Zn := ⟨16, 112, [⟨18, 1, 1⟩, ⟨20, 2, 1⟩, ⟨24, 3, 1⟩, ⟨32, 4, 1⟩, ⟨48, 4, 1⟩, ⟨64, 4, 1⟩, ⟨80, 4, 1⟩, ⟨96, 3, 1⟩, ⟨104, 2, 1⟩], [1, 1, 1, 1, 1, 1, 1, 1, 1, 1, 1, 1]⟩
theorem hit_one {a o p : Int} : 0 < hit a o p ↔ a ≤ p ∧ p < a + pw o := by
 unfold hit
 split <;> simp_all
theorem cnt_pos {l : List Bk} {p : Int} : 0 < cnt l p ↔ ∃ b ∈ l, b.a ≤ p ∧ p < b.a + pw b.o := by
 induction l with
 | nil => simp [cnt]
 | cons x l ih =>
  constructor
  ·intro h
   simp only [cnt] at h
   by_cases hx : 0 < hit x.a x.o p
   ·exact ⟨x, by simp, hit_one.1 hx⟩
   obtain ⟨b, hb, g⟩ := ih.1 (by omega)
   exact ⟨b, by simp [hb], g⟩
  rintro ⟨b, hb, g⟩
  simp only [cnt]
  rcases List.mem_cons.1 hb with rfl | hb
  ·have := hit_one.2 g; omega
  have := ih.2 ⟨b, hb, g⟩; omega
theorem ahead_two {l : List Bk} (h : l.Pairwise Ahead) {p q : Bk} (hp : p ∈ l) (hq : q ∈ l) (hlt : p.a < q.a) : Ahead p q := by
 induction l with
 | nil => simp at hp
 | cons x l ih =>
  obtain ⟨h1, h2⟩ := List.pairwise_cons.1 h
  rcases List.mem_cons.1 hp with rfl | hp'
  ·rcases List.mem_cons.1 hq with rfl | hq'
   ·omega
   exact h1 q hq'
  rcases List.mem_cons.1 hq with rfl | hq'
  ·have := (h1 p hp').1
   have := pw_pos q.o
   omega
  exact ih h2 hp' hq'
theorem same_of {l : List Bk} (hA : l.Pairwise Ahead) {p q : Bk} (hp : p ∈ l) (hq : q ∈ l) (h1 : q.a ≤ p.a) (h2 : p.a < q.a + pw q.o) : p = q := by
 by_cases e : p.a = q.a
 ·induction l with
  | nil => simp at hp
  | cons x l ih =>
   obtain ⟨k1, k2⟩ := List.pairwise_cons.1 hA
   have px := pw_pos x.o
   rcases List.mem_cons.1 hp with rfl | hp'
   ·rcases List.mem_cons.1 hq with rfl | hq'
    ·rfl
    have := (k1 q hq').1; omega
   rcases List.mem_cons.1 hq with rfl | hq'
   ·have := (k1 p hp').1; omega
   exact ih k2 hp' hq'
 have := (ahead_two hA hq hp (by omega)).1
 omega
def ao (l : List Bk) : List (Int × Int) := l.map fun b => (b.a, b.o)
def lowF (l : List Bk) (o t : Int) : Option Bk := l.find? (isT o t)
def upB (l : List Bk) (t : Int) : Nat → Int → Option Bk
 | 0, _ => none
 | n + 1, o => match lowF l o t with | some b => some b | none => upB l t n (o + 1)
def dnB (l : List Bk) (u v o : Int) : Nat → Option Bk
 | 0 => none
 | n + 1 => match lowF l (o + n) u with | some b => some b | none => match lowF l (o + n) v with | some b => some b | none => dnB l u v o n
theorem lowF_fidx (l : List Bk) (o t : Int) : lowF l o t = if 0 ≤ fidx (isT o t) l then some (l.getD (fidx (isT o t) l).toNat .zero) else none := find_fidx _ _
theorem upB_up (l : List Bk) (t : Int) : ∀ (n : Nat) (o : Int), upB l t n o = if 0 ≤ upI l t n o then some (l.getD (upI l t n o).toNat .zero) else none := by
 intro n
 induction n with
 | zero => intro o; rfl
 | succ n ih =>
  intro o
  unfold upB upI
  rw [lowF_fidx]
  by_cases h : 0 ≤ fidx (isT o t) l
  ·simp only [if_pos h]
  simp only [if_neg h]
  exact ih (o + 1)
theorem dnB_dn (l : List Bk) (u v o : Int) : ∀ (n : Nat), dnB l u v o n = if 0 ≤ dnI l u v o n then some (l.getD (dnI l u v o n).toNat .zero) else none := by
 intro n
 induction n with
 | zero => rfl
 | succ n ih =>
  unfold dnB dnI
  rw [lowF_fidx, lowF_fidx]
  by_cases h : 0 ≤ fidx (isT (o + n) u) l
  ·simp only [if_pos h]
  simp only [if_neg h]
  by_cases h' : 0 ≤ fidx (isT (o + n) v) l
  ·simp only [if_pos h']
  simp only [if_neg h']
  exact ih
theorem pick_eq (l : List Bk) (o t : Int) : (match upB l t (5 - o).toNat o with | some b => some b | none => dnB l (other1 t) (other2 t) o (5 - o).toNat) = if 0 ≤ chooseI l o t then some (l.getD (chooseI l o t).toNat .zero) else none := by
 rw [upB_up, dnB_dn]
 unfold chooseI
 by_cases h : 0 ≤ upI l t (5 - o).toNat o
 ·simp only [if_pos h]
 simp only [if_neg h]
theorem lowF_in {l : List Bk} {o t : Int} {b : Bk} (h : lowF l o t = some b) : b ∈ l ∧ b.o = o ∧ b.t = t := by
 have h1 := List.find?_some h
 have h2 := List.mem_of_find?_eq_some h
 exact ⟨h2, of_decide_eq_true h1⟩
theorem upB_in {l : List Bk} {t : Int} : ∀ {n : Nat} {o : Int} {b : Bk}, upB l t n o = some b → b ∈ l ∧ b.t = t ∧ o ≤ b.o := by
 intro n
 induction n with
 | zero => intro o b h; cases h
 | succ n ih =>
  intro o b h
  unfold upB at h
  split at h
  ·rename_i b' hb
   cases h
   obtain ⟨h1, h2, h3⟩ := lowF_in hb
   exact ⟨h1, h3, by omega⟩
  obtain ⟨h1, h2, h3⟩ := ih h
  exact ⟨h1, h2, by omega⟩
def retypeB (first last t : Int) (x : Bk) : Bk := if (first ≤ x.a ∧ x.a ≤ last + 7) ∧ x.a + pw x.o ≤ last + 8 then ⟨x.a, x.o, t⟩ else x
theorem retype_eq {z : Zn} (h : ZMay z) {b : Bk} (hb : b ∈ z.free) (t : Int) {x : Bk} (hx : x ∈ z.free) :
    retypeB (b.a / 8 * 8) ((b.a + pw b.o - 1) / 8 * 8) t x = stealB z.f (grpF z b) (grpL z b) t x := by
 obtain ⟨hin, hA⟩ := free_iff.1 h.free
 obtain ⟨⟨⟨b0, b4⟩, ba1, ba2, ba3⟩, _⟩ := hin b hb
 obtain ⟨⟨⟨x0, x4⟩, xa1, xa2, xa3⟩, _⟩ := hin x hx
 obtain ⟨n1, n2, n3, n4, n5⟩ := h.new
 have hap : x.a ≠ b.a → x.a + pw x.o ≤ b.a ∨ b.a + pw b.o ≤ x.a := fun hne => by
  rcases Int.lt_or_gt_of_ne hne with g | g
  ·exact .inl (ahead_two hA hx hb g).1
  exact .inr (ahead_two hA hb hx g).1
 have hsame : x.a = b.a → x.o = b.o := fun e => by
  have := same_of hA hx hb (by omega) (by have := pw_pos b.o; omega)
  rw [this]
 unfold retypeB stealB grpF grpL
 have key : ((b.a / 8 * 8 ≤ x.a ∧ x.a ≤ (b.a + pw b.o - 1) / 8 * 8 + 7) ∧ x.a + pw x.o ≤ (b.a + pw b.o - 1) / 8 * 8 + 8) ↔ ((b.a - z.f) / 8 ≤ (x.a - z.f) / 8 ∧ (x.a - z.f) / 8 ≤ (b.a + pw b.o - 1 - z.f) / 8) := by
  generalize x.a = xa at *
  generalize b.a = ba at *
  generalize z.f = f at *
  rcases ord_cases (o := b.o) ⟨b0, b4⟩ with ⟨q, e⟩ | ⟨q, e⟩ | ⟨q, e⟩ | ⟨q, e⟩ | ⟨q, e⟩ <;> rw [e] at ba3 hap ⊢ <;>
   rcases ord_cases (o := x.o) ⟨x0, x4⟩ with ⟨r, e'⟩ | ⟨r, e'⟩ | ⟨r, e'⟩ | ⟨r, e'⟩ | ⟨r, e'⟩ <;> rw [e'] at xa3 hap ⊢ <;>
   constructor <;> intro g <;> by_cases hs : xa = ba <;> first | (have := hsame hs; omega) | (have := hap hs; omega)
 by_cases c : ((b.a / 8 * 8 ≤ x.a ∧ x.a ≤ (b.a + pw b.o - 1) / 8 * 8 + 7) ∧ x.a + pw x.o ≤ (b.a + pw b.o - 1) / 8 * 8 + 8)
 ·rw [if_pos c, if_pos (key.1 c)]
 rw [if_neg c, if_neg (fun g => c (key.2 g))]
end Go.Proofs.YtbjlbmofdnkmiaaGreatDoor.Kit
namespace Go.Proofs.YtbjlbmofdnkmiaaGreatDoor
open Go Go.RowKit Go.Proofs.YtbjlbmofdnkmiaaGreatDoor.Kit
structure TkI (w : World) (ob bb : Nat) (f t : Int) (fo : Option Addr) (fn fc : Nat) (to_ : Option Addr) (tn tc : Nat) (free : List Bk) (types : List Int) (q : Bk) (W : World) : Prop where
 b : Below w.heap.size w W
 zin : W.cell? ⟨w.heap.size, 0, none⟩ = some (.int .i64 f)
 res : Res4 W (w.heap.size + 1)
 box : ZBox W ob (.int .i64 f) (.int .i64 t) (.slice fo fn fc) (.slice to_ tn tc)
 own : W.ownsRow (w.heap.size + 2) 53 3 (.slice fo fn fc) fn (bvals free)
 typ : W.ownsRow (w.heap.size + 2) 3 1 (.slice to_ tn tc) tn (vals types)
 tb : TBox W bb q
 ob1 : w.heap.size + 2 ≤ ob
 bb1 : w.heap.size + 2 ≤ bb
 obb : ob ≠ bb
 a1 : ∀ a, fo = some a → a.block ≠ ob ∧ a.block ≠ bb
 a2 : ∀ a, to_ = some a → a.block ≠ ob ∧ a.block ≠ bb
 a3 : ∀ a a', fo = some a → to_ = some a' → a.block ≠ a'.block
section
variable {w : World} {ob bb : Nat} {f t : Int} {fo : Option Addr} {fn fc : Nat} {to_ : Option Addr} {tn tc : Nat} {free : List Bk} {types : List Int} {q : Bk} {W : World}
theorem TkI.below {W' : World} (h : TkI w ob bb f t fo fn fc to_ tn tc free types q W) (hb : Below W.heap.size W W') : TkI w ob bb f t fo fn fc to_ tn tc free types q W' :=
 ⟨h.b.trans (hb.mono h.b.size), keep h.zin hb, h.res.below hb, h.box.below hb, owns_below h.own hb (Nat.le_refl _), owns_below h.typ hb (Nat.le_refl _), h.tb.below hb, h.ob1, h.bb1, h.obb, h.a1, h.a2, h.a3⟩
theorem row_ne {w w' : World} {base : Nat} {ao : Option Addr} {m cap c : Nat} {xs : List Value} {e : TypeId} {k : Nat} (h : w.ownsRow base e k (.slice ao m cap) m xs) (hb : But c w w') (hc : ∀ a, ao = some a → a.block ≠ c) : w'.ownsRow base e k (.slice ao m cap) m xs := by
 refine ⟨h.1, ?_⟩
 rcases h.2 with hn | ⟨g, cap', cur, e1, hbg, hg, rest⟩
 ·exact .inl hn
 have hne : g ≠ c := by
  simp only [Value.slice.injEq] at e1
  exact hc _ e1.1
 exact .inr ⟨g, cap', cur, e1, hbg, (hb.block g (Array.getElem?_eq_some_iff.1 hg).1 hne).trans hg, rest⟩
theorem TkI.setB (h : TkI w ob bb f t fo fn fc to_ tn tc free types q W) (r : Bk) : TkI w ob bb f t fo fn fc to_ tn tc free types r (((W.setCell ⟨bb, 0, none⟩ (.int .i64 r.a)).setCell ⟨bb, 1, none⟩ (.int .i64 r.o)).setCell ⟨bb, 2, none⟩ (.int .i64 r.t)) := by
 have hbt := but3 W bb (.int .i64 r.a) (.int .i64 r.o) (.int .i64 r.t)
 have h1 := h.bb1
 exact ⟨h.b.trans (hbt.below (by omega) h.b.size), hbt.cell h.zin (by omega), h.res.but hbt (by omega), h.box.but hbt h.obb, row_ne h.own hbt (fun a ha => (h.a1 a ha).2), row_ne h.typ hbt (fun a ha => (h.a2 a ha).2), h.tb.set r, h.ob1, h.bb1, h.obb, h.a1, h.a2, h.a3⟩
theorem TkI.setFree {fo' : Option Addr} {fn' fc' : Nat} {free' : List Bk} (h : TkI w ob bb f t fo fn fc to_ tn tc free types q W) (ho : W.ownsRow (w.heap.size + 2) 53 3 (.slice fo' fn' fc') fn' (bvals free')) (h1 : ∀ a, fo' = some a → a.block ≠ ob ∧ a.block ≠ bb) (h3 : ∀ a a', fo' = some a → to_ = some a' → a.block ≠ a'.block) :
    TkI w ob bb f t fo' fn' fc' to_ tn tc free' types q (W.setCell ⟨ob, 2, none⟩ (.slice fo' fn' fc')) := by
 have hbt : But ob W (W.setCell ⟨ob, 2, none⟩ (.slice fo' fn' fc')) := (But.refl _ _).setCell _
 have g1 := h.ob1
 exact ⟨h.b.trans (hbt.below (by omega) h.b.size), hbt.cell h.zin (by omega), h.res.but hbt (by omega), h.box.set2 _, row_ne ho hbt (fun a ha => (h1 a ha).1), row_ne h.typ hbt (fun a ha => (h.a2 a ha).1), h.tb.but hbt (Ne.symm h.obb), h.ob1, h.bb1, h.obb, h1, h.a2, h3⟩
end
theorem rise_of {z : Zn} (h : ZMay z) : ∀ i j, i < j → j < z.free.length → (z.free.getD i .zero).a ≤ (z.free.getD j .zero).a := fun i j hij hj => by
 have hI := inc_of_free h.free
 have := List.pairwise_iff_getElem.1 hI i j (by omega) hj hij
 rw [List.getD_eq_getElem?_getD, List.getD_eq_getElem?_getD, List.getElem?_eq_getElem (by omega), List.getElem?_eq_getElem hj]
 exact Int.le_of_lt this
def UpF (l : List Bk) (t o : Int) (fd : Bool) (O : Int) (q : Bk) : Prop := if fd = true then upB l t (5 - o).toNat o = some q else upB l t (5 - o).toNat o = upB l t (5 - O).toNat O
theorem upF_next {l : List Bk} {t o O : Int} {q q' : Bk} {fd : Bool} (h : UpF l t o false O q) (h4 : O ≤ 4) (hf : FoundB l O t fd q') : UpF l t o fd (O + 1) q' := by
 unfold UpF FoundB at *
 simp only [Bool.false_eq_true, if_false] at h
 have e : (5 - O).toNat = (5 - (O + 1)).toNat + 1 := by omega
 rw [e] at h
 cases fd with
 | true =>
  simp only [if_true] at hf ⊢
  rw [h]
  unfold upB
  have : lowF l O t = some q' := hf
  rw [this]
 | false =>
  simp only [Bool.false_eq_true, if_false] at hf ⊢
  rw [h]
  show upB l t ((5 - (O + 1)).toNat + 1) O = _
  conv => lhs; unfold upB
  have : lowF l O t = none := hf.1
  rw [this]
def InF (l : List Bk) (u v O : Int) (fd : Bool) (k : Nat) (q : Bk) : Prop :=
 if fd = true then (lowF l O u = some q ∨ (lowF l O u = none ∧ lowF l O v = some q)) else (1 ≤ k → lowF l O u = none) ∧ (2 ≤ k → lowF l O v = none)
theorem inF_0 {l : List Bk} {u v O : Int} {q q' : Bk} {fd : Bool} (hf : FoundB l O u fd q') (_h : InF l u v O false 0 q) : InF l u v O fd 1 q' := by
 unfold InF FoundB at *
 cases fd with
 | true => exact .inl hf
 | false => exact ⟨fun _ => hf.1, fun g => by omega⟩
theorem inF_1 {l : List Bk} {u v O : Int} {q q' : Bk} {fd : Bool} (hf : FoundB l O v fd q') (h : InF l u v O false 1 q) : InF l u v O fd 2 q' := by
 unfold InF FoundB at *
 simp only [Bool.false_eq_true, if_false] at h
 cases fd with
 | true => exact .inr ⟨h.1 (by omega), hf⟩
 | false => exact ⟨fun _ => h.1 (by omega), fun _ => hf.1⟩
def DnF (l : List Bk) (u v o : Int) (fd : Bool) (O : Int) (q : Bk) : Prop := if fd = true then dnB l u v o (5 - o).toNat = some q else dnB l u v o (5 - o).toNat = dnB l u v o (O + 1 - o).toNat
theorem dnF_next {l : List Bk} {u v o O : Int} {q q' : Bk} {fd : Bool} {k : Nat} (h : DnF l u v o false O q) (h1 : o ≤ O) (hk : fd = false → k = 2) (hf : InF l u v O fd k q') : DnF l u v o fd (O - 1) q' := by
 unfold DnF InF at *
 simp only [Bool.false_eq_true, if_false] at h
 have e : (O + 1 - o).toNat = (O - o).toNat + 1 := by omega
 have e2 : o + ((O - o).toNat : Int) = O := by omega
 have e3 : (O - 1 + 1 - o).toNat = (O - o).toNat := by omega
 rw [e] at h
 cases fd with
 | true =>
  simp only [if_true] at hf ⊢
  rw [h]
  unfold dnB
  rw [e2]
  rcases hf with g | ⟨g1, g2⟩
  ·rw [g]
  rw [g1, g2]
 | false =>
  simp only [Bool.false_eq_true, if_false] at hf ⊢
  have hk2 := hk rfl
  rw [h, e3]
  conv => lhs; unfold dnB
  rw [e2, hf.1 (by omega), hf.2 (by omega)]
section
variable {w : World} {ob bb : Nat} {f t : Int} {fo : Option Addr} {fn fc : Nat} {to_ : Option Addr} {tn tc : Nat} {free : List Bk} {types : List Int} {q : Bk} {W : World}
theorem TkI.setTy {g : Nat} (h : TkI w ob bb f t fo fn fc (some ⟨g, 0, none⟩) tn tc free types q W) {c : Nat} (hc : c < tn) (x : Int) :
    (∃ v, W.cell? ⟨g, c, none⟩ = some v) ∧ W.frozen? ⟨g, c, none⟩ = false ∧ TkI w ob bb f t fo fn fc (some ⟨g, 0, none⟩) tn tc free (types.set c x) q (W.setCell ⟨g, c, none⟩ (.int .i64 x)) := by
 obtain ⟨c1, c2, o⟩ := owns_store h.typ c hc x
 have hbt : But g W (W.setCell ⟨g, c, none⟩ (.int .i64 x)) := (But.refl _ _).setCell _
 have hg := owns_fresh h.typ _ rfl
 dsimp only at hg
 obtain ⟨n1, n2⟩ := h.a2 _ rfl
 dsimp only at n1 n2
 exact ⟨⟨_, c1⟩, c2, h.b.trans (hbt.below (by omega) h.b.size), hbt.cell h.zin (by omega), h.res.but hbt (by omega), h.box.but hbt (Ne.symm n1), row_ne h.own hbt (fun a ha => h.a3 a _ ha rfl), o, h.tb.but hbt (Ne.symm n2), h.ob1, h.bb1, h.obb, h.a1, h.a2, h.a3⟩
theorem TkI.setBt {g : Nat} (h : TkI w ob bb f t (some ⟨g, 0, none⟩) fn fc to_ tn tc free types q W) {i : Nat} (hi : i < fn) (x : Int) :
    (∃ v, W.cell? ⟨g, i * 3 + 2, none⟩ = some v) ∧ W.frozen? ⟨g, i * 3 + 2, none⟩ = false ∧ TkI w ob bb f t (some ⟨g, 0, none⟩) fn fc to_ tn tc (free.set i ⟨(free.getD i .zero).a, (free.getD i .zero).o, x⟩) types q (W.setCell ⟨g, i * 3 + 2, none⟩ (.int .i64 x)) := by
 obtain ⟨c1, c2, o⟩ := own_type h.own hi x
 have hbt : But g W (W.setCell ⟨g, i * 3 + 2, none⟩ (.int .i64 x)) := (But.refl _ _).setCell _
 have hg := owns_fresh h.own _ rfl
 dsimp only at hg
 obtain ⟨n1, n2⟩ := h.a1 _ rfl
 dsimp only at n1 n2
 exact ⟨⟨_, c1⟩, c2, h.b.trans (hbt.below (by omega) h.b.size), hbt.cell h.zin (by omega), h.res.but hbt (by omega), h.box.but hbt (Ne.symm n1), o, row_ne h.typ hbt (fun a ha => Ne.symm (h.a3 _ a rfl ha)), h.tb.but hbt (Ne.symm n2), h.ob1, h.bb1, h.obb, h.a1, h.a2, h.a3⟩
theorem TkI.setQt (h : TkI w ob bb f t fo fn fc to_ tn tc free types q W) (x : Int) : TkI w ob bb f t fo fn fc to_ tn tc free types ⟨q.a, q.o, x⟩ (W.setCell ⟨bb, 2, none⟩ (.int .i64 x)) := by
 have hbt : But bb W (W.setCell ⟨bb, 2, none⟩ (.int .i64 x)) := (But.refl _ _).setCell _
 have h1 := h.bb1
 have o : ∀ j : Nat, j ≠ 2 → (W.setCell ⟨bb, 2, none⟩ (.int .i64 x)).cell? ⟨bb, j, none⟩ = W.cell? ⟨bb, j, none⟩ := fun j hj => World.cell?_setCell_other _ _ _ _ (by intro g; cases g; exact hj rfl)
 exact ⟨h.b.trans (hbt.below (by omega) h.b.size), hbt.cell h.zin (by omega), h.res.but hbt (by omega), h.box.but hbt h.obb, row_ne h.own hbt (fun a ha => (h.a1 a ha).2), row_ne h.typ hbt (fun a ha => (h.a2 a ha).2), ⟨(o 0 (by decide)).trans h.tb.c0, (o 1 (by decide)).trans h.tb.c1, World.cell?_setCell_same _ _ _ h.tb.c2, by simpa using h.tb.z0, by simpa using h.tb.z1, by simpa using h.tb.z2⟩, h.ob1, h.bb1, h.obb, h.a1, h.a2, h.a3⟩
end
theorem taken_eq {z : Zn} (h : ZMay z) {o t : Int} (ho : ordOk o) {i : Nat} (hC : chooseI z.free o t = i) {q0 q : Bk} {fr : List Bk} {ty : List Int} (hq : z.free.getD i .zero = q0)
    (hs : (steals q0 t ∧ fr = (stolenZ z q0 t).free ∧ ty = (stolenZ z q0 t).types ∧ q = ⟨q0.a, q0.o, t⟩) ∨ (¬ steals q0 t ∧ fr = z.free ∧ ty = z.types ∧ q = q0)) :
    takeZ z o t i = ⟨z.f, z.t, putH q.a q.t o (q.o - o).toNat (dropB fr q.a q.o), ty⟩ ∧ q.a = q0.a ∧ o ≤ q.o := by
 obtain ⟨j, e, hj, hob⟩ := choose_in (l := z.free) (o := o) (t := t) (by omega)
 obtain rfl : j = i := by omega
 have hA := (free_iff.1 h.free).2
 have tail : ∀ (l : List Bk), l.Pairwise Ahead → ∀ b, j < l.length → l.getD j .zero = b → o ≤ b.o → putH b.a b.t o (b.o - o).toNat (dropB l b.a b.o) = l.take j ++ (halvesL b.a b.t o (b.o - o).toNat ++ l.drop (j + 1)) := fun l hl b hjl hb hbo => by
  have hc := cut_at l hjl
  rw [hb] at hc
  have := take_place (l.take j) (l.drop (j + 1)) b b.t o ho.1 hbo (by rw [← hc]; exact hl.imp fun g => g.1)
  rw [← hc] at this
  rw [this, List.append_assoc]
 rw [hq] at hob
 rcases hs with ⟨h1, rfl, rfl, rfl⟩ | ⟨h1, rfl, rfl, rfl⟩
 ·refine ⟨?_, rfl, hob⟩
  unfold takeZ
  dsimp only
  rw [hq, if_pos h1]
  have hget : (stolenZ z q0 t).free.getD j .zero = ⟨q0.a, q0.o, t⟩ := by
   unfold stolenZ
   dsimp only
   rw [map_getD _ hj, hq, stolen_self]
  rw [tail (stolenZ z q0 t).free (steal_ahead _ _ _ _ hA) ⟨q0.a, q0.o, t⟩ (by unfold stolenZ; simpa using hj) hget hob]
 refine ⟨?_, rfl, hob⟩
 unfold takeZ
 dsimp only
 rw [hq, if_neg h1, tail z.free hA q hj hq hob]
def oth0 (t : Int) : Int := if t = 2 then 0 else 2
def oth1 (t : Int) : Int := if t = 1 then 0 else 1
theorem otherTypes_any (w : World) (t : Int) (h0 : 0 ≤ t) (h2 : t ≤ 2) :
    Calls Tryz.prog 76 #[.int .i64 t] w fun e w' => ∃ b, e = .returned (.slice (some ⟨b, 0, none⟩) 2 2) ∧ w.heap.size ≤ b ∧ w'.cell? ⟨b, 0, none⟩ = some (.int .i64 (oth0 t)) ∧ w'.cell? ⟨b, 1, none⟩ = some (.int .i64 (oth1 t)) ∧ Below w.heap.size w w' := by
 have ht : t = 0 ∨ t = 1 ∨ t = 2 := by omega
 go_enter Tryz.func76, Tryz.ntmps76
 rcases ht with rfl | rfl | rfl
 all_goals
  go_wp2
  go_ret
  refine ⟨_, rfl, Nat.le_refl _, ?_, ?_, ?_⟩
  ·go_simp
   try rfl
  ·go_simp
   try rfl
  exact below_box _ _
theorem without_any (w : World) (ao : Option Addr) (n cap : Nat) (l : List Bk) (a o : Int) (h : Blks w ao n l) :
    Calls Tryz.prog 77 #[.slice ao n cap, .int .i64 a, .int .i64 o] w fun e w' => ∃ bo m c, e = .returned (.tuple #[.slice bo m c, .bool (hasB l a o)]) ∧
     w'.ownsRow w.heap.size 53 3 (.slice bo m c) m (bvals (dropB l a o)) ∧ Below w.heap.size w w' := by
 obtain ⟨i0, hi, hz0, hz1, hz2⟩ := info_parts info_block
 obtain ⟨hn, hr, hx⟩ := h
 go_enter Tryz.func77, Tryz.ntmps77
 go_wp2
 go_loopw [8, 9, 10] (fun v fv i wr => ∃ (k m c : Nat) (bo : Option Addr), k ≤ n ∧ m ≤ k ∧ v = .slice bo m c ∧ fv = .bool (hasB (l.take k) a o) ∧ i = .int .i64 k ∧ wr.ownsRow w.heap.size 53 3 (.slice bo m c) m (bvals (dropB (l.take k) a o)) ∧ Below w.heap.size w wr) (fun _ _ i _ => n - (intOf i).toNat)
 case atStart => exact ⟨0, 0, 0, none, Nat.zero_le _, Nat.le_refl _, rfl, rfl, rfl, World.ownsRow_nil _ _ _ _, Below.refl _ _⟩
 case round =>
  obtain ⟨k, m, c, bo, hk, hm, rfl, rfl, rfl, hown, hb⟩ := hrel
  have hs := hb.size
  by_cases hlt : k < n
  ·obtain ⟨b, of, x, y, u, rfl, c1, c2, c3, hX⟩ := (hx.below hb).at k (by omega)
   have htk := take_getD l k (by omega) hX.out
   have hml : m + 1 ≤ maxLen := by unfold maxLen; omega
   by_cases g1 : x = a
   ·have g1b : (x == a) = true := by simpa using g1
    by_cases g2 : y = o
    ·have g2b : (y == o) = true := by simpa using g2
     have hT : isB a o ⟨x, y, u⟩ = true := decide_eq_true ⟨g1, g2⟩
     have hH' : Value.bool true = .bool (hasB (l.take (k + 1)) a o) := by rw [htk, hasB_snoc, hT, Bool.or_true]
     have hown2 : wr.ownsRow w.heap.size 53 3 (.slice bo m c) m (bvals (dropB (l.take (k + 1)) a o)) := by rw [htk, dropB_snoc, if_pos hT]; exact hown
     have HH' : Hid _ := hH'
     clear hx hX htk hT hown hH' g1 g2
     go_wp2
     go_roundw
     case rel => exact ⟨k + 1, m, c, bo, by omega, by omega, rfl, HH'.out, by go_num, hown2, hb⟩
     case measure => simp [intOf]; omega
    have g2b : (y == o) = false := by simpa using g2
    have hT : isB a o ⟨x, y, u⟩ = false := decide_eq_false (fun g => g2 g.2)
    have hH' : Value.bool (hasB (l.take k) a o) = .bool (hasB (l.take (k + 1)) a o) := by rw [htk, hasB_snoc, hT, Bool.or_false]
    have HE : Hid (bvals (dropB (l.take k) a o) ++ [.int .i64 x, .int .i64 y, .int .i64 u] = bvals (dropB (l.take (k + 1)) a o)) := by show _ = _; rw [htk, dropB_snoc, hT, if_neg (by simp), bvals_append]; rfl
    have HH' : Hid _ := hH'
    clear hx hX htk hT hH' g1 g2
    go_wp2_with (at_builtin; refine wpList_append_own _ rfl (.tmp 33) (.tmp 38) 25 rfl w.heap.size 53 i0 (.agg #[.int .i64 0, .int .i64 0, .int .i64 0]) 3 24 Tryz.underlying25 hi hz0 hz1 hz2 rfl (by decide) _ _ _ rfl (hown.alloc _) ⟨wr.heap.size, 0, none⟩ 1 1 [.int .i64 x, .int .i64 y, .int .i64 u] rfl rfl ?c1 ?c2 hml ?c4 ?c5 ?_)
    case c1 => exact cell_three_new _ _ _ _ _
    case c2 => exact ints_oneCell .i64 [_, _, _]
    case c4 => omega
    case c5 => simp; omega
    intro v' w1 hown' hgrow _
    rw [HE.out] at hown'
    have hb' : Below w.heap.size w w1 := (hb.alloc hs _).grown hgrow (by simp; omega) (fun g hg => (hown.lt g hg).1)
    obtain ⟨bo', c', rfl⟩ := owns_shape hown'
    clear hown hgrow hb
    go_wp2
    go_roundw
    case rel => exact ⟨k + 1, m + 1, c', bo', by omega, by omega, rfl, HH'.out, by go_num, hown', hb'⟩
    case measure => simp [intOf]; omega
   have g1b : (x == a) = false := by simpa using g1
   have hT : isB a o ⟨x, y, u⟩ = false := decide_eq_false (fun g => g1 g.1)
   have hH' : Value.bool (hasB (l.take k) a o) = .bool (hasB (l.take (k + 1)) a o) := by rw [htk, hasB_snoc, hT, Bool.or_false]
   have HE : Hid (bvals (dropB (l.take k) a o) ++ [.int .i64 x, .int .i64 y, .int .i64 u] = bvals (dropB (l.take (k + 1)) a o)) := by show _ = _; rw [htk, dropB_snoc, hT, if_neg (by simp), bvals_append]; rfl
   have HH' : Hid _ := hH'
   clear hx hX htk hT hH' g1
   go_wp2_with (at_builtin; refine wpList_append_own _ rfl (.tmp 33) (.tmp 38) 25 rfl w.heap.size 53 i0 (.agg #[.int .i64 0, .int .i64 0, .int .i64 0]) 3 24 Tryz.underlying25 hi hz0 hz1 hz2 rfl (by decide) _ _ _ rfl (hown.alloc _) ⟨wr.heap.size, 0, none⟩ 1 1 [.int .i64 x, .int .i64 y, .int .i64 u] rfl rfl ?c1 ?c2 hml ?c4 ?c5 ?_)
   case c1 => exact cell_three_new _ _ _ _ _
   case c2 => exact ints_oneCell .i64 [_, _, _]
   case c4 => omega
   case c5 => simp; omega
   intro v' w1 hown' hgrow _
   rw [HE.out] at hown'
   have hb' : Below w.heap.size w w1 := (hb.alloc hs _).grown hgrow (by simp; omega) (fun g hg => (hown.lt g hg).1)
   obtain ⟨bo', c', rfl⟩ := owns_shape hown'
   clear hown hgrow hb
   go_wp2
   go_roundw
   case rel => exact ⟨k + 1, m + 1, c', bo', by omega, by omega, rfl, HH'.out, by go_num, hown', hb'⟩
   case measure => simp [intOf]; omega
  obtain rfl : k = n := by omega
  rw [List.take_of_length_le (by omega)] at hown ⊢
  go_wp2
  go_ret2
  exact ⟨bo, m, c, rfl, hown, hb⟩
theorem box3 (w : World) (x y z : Value) (t : TypeId) : (w.alloc (.cells #[x, y, z] t)).cell? ⟨w.heap.size, 0, none⟩ = some x ∧ (w.alloc (.cells #[x, y, z] t)).cell? ⟨w.heap.size, 1, none⟩ = some y ∧ (w.alloc (.cells #[x, y, z] t)).cell? ⟨w.heap.size, 2, none⟩ = some z := ⟨by simp, by simp, by simp⟩
theorem withBlock_any (w : World) (ao : Option Addr) (n cap : Nat) (l : List Bk) (b : Bk) (h : Blks w ao n l) (hn1 : n ≤ 4096) :
    Calls Tryz.prog 25 #[.slice ao n cap, .agg #[.int .i64 b.a, .int .i64 b.o, .int .i64 b.t]] w fun e w' => ∃ bo c, e = .returned (.slice bo (n + 1) c) ∧
     w'.ownsRow w.heap.size 53 3 (.slice bo (n + 1) c) (n + 1) (bvals (addB l b)) ∧ Below w.heap.size w w' := by
 obtain ⟨i0, hi, hz0, hz1, hz2⟩ := info_parts info_block
 obtain ⟨hn, hr, hx⟩ := h
 obtain ⟨W0, hW0⟩ : ∃ W0, w.alloc (.cells #[.int .i64 b.a, .int .i64 b.o, .int .i64 b.t] 53) = W0 := ⟨_, rfl⟩
 have hs0 : w.heap.size + 1 ≤ W0.heap.size := by rw [← hW0]; simp
 have hb0 : Below w.heap.size w W0 := by rw [← hW0]; exact below_box _ _
 have B0 : W0.cell? ⟨w.heap.size, 0, none⟩ = some (.int .i64 b.a) := by rw [← hW0]; exact (box3 _ _ _ _ _).1
 have B1 : W0.cell? ⟨w.heap.size, 1, none⟩ = some (.int .i64 b.o) := by rw [← hW0]; exact (box3 _ _ _ _ _).2.1
 have B2 : W0.cell? ⟨w.heap.size, 2, none⟩ = some (.int .i64 b.t) := by rw [← hW0]; exact (box3 _ _ _ _ _).2.2
 have HQ : ∀ W, Below (w.heap.size + 1) W0 W → W.cell? ⟨w.heap.size, 0, none⟩ = some (.int .i64 b.a) ∧ W.cell? ⟨w.heap.size, 1, none⟩ = some (.int .i64 b.o) ∧ W.cell? ⟨w.heap.size, 2, none⟩ = some (.int .i64 b.t) ∧ BlksAt W ao l := fun W h =>
  ⟨(h.cell (p := ⟨w.heap.size, 0, none⟩) (show w.heap.size < w.heap.size + 1 by omega)).trans B0, (h.cell (p := ⟨w.heap.size, 1, none⟩) (show w.heap.size < w.heap.size + 1 by omega)).trans B1, (h.cell (p := ⟨w.heap.size, 2, none⟩) (show w.heap.size < w.heap.size + 1 by omega)).trans B2, hx.below (hb0.trans (h.mono (Nat.le_succ _)))⟩
 have HQ' : Hid _ := HQ
 clear HQ B0 B1 B2 hx
 go_enter Tryz.func25, Tryz.ntmps25
 go_wp2
 try rw [hW0]
 clear hW0
 go_loopw [5, 6, 7] (fun v dv i wr => ∃ (k m c : Nat) (bo : Option Addr) (dn : Bool), k ≤ n ∧ m ≤ k + 1 ∧ v = .slice bo m c ∧ dv = .bool dn ∧ Hid (gtB (l.take k) b = dn) ∧ i = .int .i64 k ∧ wr.ownsRow (w.heap.size + 1) 53 3 (.slice bo m c) m (bvals (outB (l.take k) b)) ∧ Below (w.heap.size + 1) W0 wr) (fun _ _ i _ => n - (intOf i).toNat)
 case atStart => exact ⟨0, 0, 0, none, false, Nat.zero_le _, by omega, rfl, rfl, rfl, rfl, World.ownsRow_nil _ _ _ _, Below.refl _ _⟩
 case round =>
  obtain ⟨k, m, c, bo, dn, hk, hm, rfl, rfl, hG, rfl, hown, hb⟩ := hrel
  obtain ⟨b0, b1, b2, hxr⟩ := HQ'.out _ hb
  by_cases hlt : k < n
  ·obtain ⟨g, of, x, y, u, rfl, c1, c2, c3, hX⟩ := hxr.at k (by omega)
   have htk := take_getD l k (by omega) hX.out
   clear hxr
   have hsz := hb.size
   cases dn with
   | true =>
    have hG' : Hid (gtB (l.take (k + 1)) b = true) := by show _ = _; rw [htk, gtB_snoc, hG.out]; rfl
    have HE : Hid (bvals (outB (l.take k) b) ++ [.int .i64 x, .int .i64 y, .int .i64 u] = bvals (outB (l.take (k + 1)) b)) := by
     show _ = _
     have h1 : outB (l.take k) b = addB (l.take k) b := by unfold outB; rw [if_pos hG.out]
     have h2 : outB (l.take (k + 1)) b = addB (l.take (k + 1)) b := by unfold outB; rw [if_pos hG'.out]
     rw [h1, h2, htk, addB_snoc_t _ hG.out, bvals_append]; rfl
    clear hG htk hX
    go_wp2
    go_quiet (fail)
    have hbq := below_drawn (w := wr) nq
    have own1 := owns_below hown hbq (Nat.le_refl _)
    have hb1 := hb.trans (hbq.mono (by omega))
    replace c1 := keep c1 hbq
    replace c2 := keep c2 hbq
    replace c3 := keep c3 hbq
    obtain ⟨W1, hW1⟩ : ∃ W1, wr.drewN nq = W1 := ⟨_, rfl⟩
    rw [hW1] at own1 hb1 c1 c2 c3 ⊢
    clear hW1 hbq hown hb b0 b1 b2
    go_wp2_with (at_builtin; refine wpList_append_own _ rfl (.tmp 30) (.tmp 35) 25 rfl (w.heap.size + 1) 53 i0 (.agg #[.int .i64 0, .int .i64 0, .int .i64 0]) 3 24 Tryz.underlying25 hi hz0 hz1 hz2 rfl (by decide) _ _ _ rfl (own1.alloc _) ⟨W1.heap.size, 0, none⟩ 1 1 [.int .i64 x, .int .i64 y, .int .i64 u] rfl rfl ?c1 ?c2 (by unfold maxLen; omega) ?c4 ?c5 ?_)
    case c1 => exact cell_three_new _ _ _ _ _
    case c2 => exact ints_oneCell .i64 [_, _, _]
    case c4 => omega
    case c5 => have := hb1.size; simp; omega
    intro v' w3 hown' hgrow _
    have hbN : Below (w.heap.size + 1) W0 w3 := (hb1.alloc (by have := hb1.size; omega) _).grown hgrow (by have := hb1.size; simp; omega) (fun g hg => (own1.lt g hg).1)
    obtain ⟨bo', c', rfl⟩ := owns_shape hown'
    rw [HE.out] at hown'
    clear own1 hgrow hb1 c1 c2 c3
    go_wp2
    go_roundw
    case rel => exact ⟨k + 1, m + 1, c', bo', true, by omega, by omega, rfl, rfl, hG', by go_num, hown', hbN⟩
    case measure => simp [intOf]; omega
   | false =>
    have ho1 : outB (l.take k) b = l.take k := by unfold outB; rw [if_neg (by rw [hG.out]; simp)]
    by_cases hgt : b.a < x
    ·have hgb : decide (b.a < x) = true := decide_eq_true hgt
     have hG' : Hid (gtB (l.take (k + 1)) b = true) := by show _ = _; rw [htk, gtB_snoc]; simp [hgt]
     have HE : Hid ((bvals (outB (l.take k) b) ++ [.int .i64 b.a, .int .i64 b.o, .int .i64 b.t]) ++ [.int .i64 x, .int .i64 y, .int .i64 u] = bvals (outB (l.take (k + 1)) b)) := by
      show _ = _
      have h2 : outB (l.take (k + 1)) b = addB (l.take (k + 1)) b := by unfold outB; rw [if_pos hG'.out]
      rw [ho1, h2, htk, addB_snoc_f hG.out hgt, bvals_append, List.append_assoc]; rfl
     have hm2 : m ≤ k := by
      have h3 := bowns_len hown
      rw [ho1, List.length_take] at h3
      omega
     clear hG htk ho1 hgt
     go_wp2
     go_quiet (fail)
     have hbq := below_drawn (w := wr) nq
     have own1 := owns_below hown hbq (Nat.le_refl _)
     have hb1 := hb.trans (hbq.mono (by omega))
     obtain ⟨W1, hW1⟩ : ∃ W1, wr.drewN nq = W1 := ⟨_, rfl⟩
     rw [hW1] at own1 hb1 ⊢
     clear hW1 hbq hown hb b0 b1 b2 c1 c2 c3
     obtain ⟨b0, b1, b2, hx1⟩ := HQ'.out _ hb1
     go_wp2_with (at_builtin; refine wpList_append_own _ rfl (.tmp 26) (.tmp 28) 25 rfl (w.heap.size + 1) 53 i0 (.agg #[.int .i64 0, .int .i64 0, .int .i64 0]) 3 24 Tryz.underlying25 hi hz0 hz1 hz2 rfl (by decide) _ _ _ rfl (own1.alloc _) ⟨W1.heap.size, 0, none⟩ 1 1 [.int .i64 b.a, .int .i64 b.o, .int .i64 b.t] rfl rfl ?c1 ?c2 (by unfold maxLen; omega) ?c4 ?c5 ?_)
     case c1 => exact cell_three_new _ _ _ _ _
     case c2 => exact ints_oneCell .i64 [_, _, _]
     case c4 => omega
     case c5 => have := hb1.size; simp; omega
     intro v' w3 hown' hgrow _
     have hbN : Below (w.heap.size + 1) W0 w3 := (hb1.alloc (by have := hb1.size; omega) _).grown hgrow (by have := hb1.size; simp; omega) (fun g hg => (own1.lt g hg).1)
     obtain ⟨bo', c', rfl⟩ := owns_shape hown'
     obtain ⟨b0', b1', b2', hx3⟩ := HQ'.out _ hbN
     have own3 := hown'
     have hb3 := hbN
     clear own1 hgrow hb1 b0 b1 b2 b0' b1' b2' hown' hbN hx1
     obtain ⟨g', of', x', y', u', he, c1, c2, c3, hX'⟩ := hx3.at k (by omega)
     cases he
     have hxy : (⟨x, y, u⟩ : Bk) = ⟨x', y', u'⟩ := hX.out.symm.trans hX'.out
     cases hxy
     clear hX hX' hx3
     have hsz3 := hb3.size
     go_wp2_with (at_builtin; refine wpList_append_own _ rfl (.tmp 30) (.tmp 35) 25 rfl (w.heap.size + 1) 53 i0 (.agg #[.int .i64 0, .int .i64 0, .int .i64 0]) 3 24 Tryz.underlying25 hi hz0 hz1 hz2 rfl (by decide) _ _ _ rfl (own3.alloc _) ⟨w3.heap.size, 0, none⟩ 1 1 [.int .i64 x, .int .i64 y, .int .i64 u] rfl rfl ?c1 ?c2 (by unfold maxLen; omega) ?c4 ?c5 ?_)
     case c1 => exact cell_three_new _ _ _ _ _
     case c2 => exact ints_oneCell .i64 [_, _, _]
     case c4 => omega
     case c5 => have := hb3.size; simp; omega
     intro v' w4 hown' hgrow _
     have hbN : Below (w.heap.size + 1) W0 w4 := (hb3.alloc (by have := hb3.size; omega) _).grown hgrow (by have := hb3.size; simp; omega) (fun g hg => (own3.lt g hg).1)
     obtain ⟨bo', c', rfl⟩ := owns_shape hown'
     replace hown' : w4.ownsRow (w.heap.size + 1) 53 3 (.slice bo' (m + 1 + 1) c') (m + 1 + 1) (bvals (outB (l.take (k + 1)) b)) := by rw [← HE.out]; simpa using hown'
     clear own3 hgrow hb3 c1 c2 c3
     go_wp2
     go_roundw
     case rel => exact ⟨k + 1, m + 1 + 1, c', bo', true, by omega, by omega, rfl, rfl, hG', by go_num, hown', hbN⟩
     case measure => simp [intOf]; omega
    have hgb : decide (b.a < x) = false := decide_eq_false hgt
    have hG' : Hid (gtB (l.take (k + 1)) b = false) := by show _ = _; rw [htk, gtB_snoc, hG.out]; simpa using hgt
    have HE : Hid (bvals (outB (l.take k) b) ++ [.int .i64 x, .int .i64 y, .int .i64 u] = bvals (outB (l.take (k + 1)) b)) := by
     show _ = _
     have h2 : outB (l.take (k + 1)) b = l.take (k + 1) := by unfold outB; rw [if_neg (by rw [hG'.out]; simp)]
     rw [ho1, h2, htk, bvals_append]; rfl
    clear hG htk ho1 hgt hX
    go_wp2
    go_quiet (fail)
    have hbq := below_drawn (w := wr) nq
    have own1 := owns_below hown hbq (Nat.le_refl _)
    have hb1 := hb.trans (hbq.mono (by omega))
    replace c1 := keep c1 hbq
    replace c2 := keep c2 hbq
    replace c3 := keep c3 hbq
    obtain ⟨W1, hW1⟩ : ∃ W1, wr.drewN nq = W1 := ⟨_, rfl⟩
    rw [hW1] at own1 hb1 c1 c2 c3 ⊢
    clear hW1 hbq hown hb b0 b1 b2
    go_wp2_with (at_builtin; refine wpList_append_own _ rfl (.tmp 30) (.tmp 35) 25 rfl (w.heap.size + 1) 53 i0 (.agg #[.int .i64 0, .int .i64 0, .int .i64 0]) 3 24 Tryz.underlying25 hi hz0 hz1 hz2 rfl (by decide) _ _ _ rfl (own1.alloc _) ⟨W1.heap.size, 0, none⟩ 1 1 [.int .i64 x, .int .i64 y, .int .i64 u] rfl rfl ?c1 ?c2 (by unfold maxLen; omega) ?c4 ?c5 ?_)
    case c1 => exact cell_three_new _ _ _ _ _
    case c2 => exact ints_oneCell .i64 [_, _, _]
    case c4 => omega
    case c5 => have := hb1.size; simp; omega
    intro v' w3 hown' hgrow _
    have hbN : Below (w.heap.size + 1) W0 w3 := (hb1.alloc (by have := hb1.size; omega) _).grown hgrow (by have := hb1.size; simp; omega) (fun g hg => (own1.lt g hg).1)
    obtain ⟨bo', c', rfl⟩ := owns_shape hown'
    rw [HE.out] at hown'
    clear own1 hgrow hb1 c1 c2 c3
    go_wp2
    go_roundw
    case rel => exact ⟨k + 1, m + 1, c', bo', false, by omega, by omega, rfl, rfl, hG', by go_num, hown', hbN⟩
    case measure => simp [intOf]; omega
  obtain rfl : k = n := by omega
  have htk : l.take k = l := List.take_of_length_le (by omega)
  rw [htk] at hown hG
  have hsz := hb.size
  cases dn with
  | true =>
   have h1 : outB l b = addB l b := by unfold outB; rw [if_pos hG.out]
   rw [h1] at hown
   have hmn : m = k + 1 := by
    have h3 := bowns_len hown
    rw [addB_len] at h3
    omega
   subst hmn
   clear hG h1 htk
   go_wp2
   go_ret
   exact ⟨bo, c, rfl, owns_weaken hown (Nat.le_succ _), hb0.trans (hb.mono (Nat.le_succ _))⟩
  | false =>
   have h1 : outB l b = l := by unfold outB; rw [if_neg (by rw [hG.out]; simp)]
   have HE : Hid (bvals (outB l b) ++ [.int .i64 b.a, .int .i64 b.o, .int .i64 b.t] = bvals (addB l b)) := by
    show _ = _
    rw [h1, addB_none hG.out, bvals_append]; rfl
   have hmn : m = k := by
    have h3 := bowns_len hown
    rw [h1] at h3
    omega
   subst hmn
   clear hG h1 htk
   go_wp2_with (at_builtin; refine wpList_append_own _ rfl (.tmp 39) (.tmp 41) 25 rfl (w.heap.size + 1) 53 i0 (.agg #[.int .i64 0, .int .i64 0, .int .i64 0]) 3 24 Tryz.underlying25 hi hz0 hz1 hz2 rfl (by decide) _ _ _ rfl (hown.alloc _) ⟨wr.heap.size, 0, none⟩ 1 1 [.int .i64 b.a, .int .i64 b.o, .int .i64 b.t] rfl rfl ?c1 ?c2 (by unfold maxLen; omega) ?c4 ?c5 ?_)
   case c1 => exact cell_three_new _ _ _ _ _
   case c2 => exact ints_oneCell .i64 [_, _, _]
   case c4 => omega
   case c5 => have := hb.size; simp; omega
   intro v' w3 hown' hgrow _
   have hbN : Below (w.heap.size + 1) W0 w3 := (hb.alloc (by have := hb.size; omega) _).grown hgrow (by have := hb.size; simp; omega) (fun g hg => (hown.lt g hg).1)
   obtain ⟨bo', c', rfl⟩ := owns_shape hown'
   rw [HE.out] at hown'
   clear hgrow
   go_wp2
   go_ret
   exact ⟨bo', c', rfl, owns_weaken hown' (Nat.le_succ _), hb0.trans (hbN.mono (Nat.le_succ _))⟩
end Go.Proofs.YtbjlbmofdnkmiaaGreatDoor
namespace Go.Proofs.YtbjlbmofdnkmiaaGreatDoor.Kit
open Go Go.RowKit
structure Res1 (W : World) (b : Nat) : Prop where
 d : ∃ v, W.cell? ⟨b, 0, none⟩ = some v
 z : W.frozen? ⟨b, 0, none⟩ = false
theorem Res1.lt {W : World} {b : Nat} (h : Res1 W b) : b < W.heap.size := by
 obtain ⟨v, hv⟩ := h.d
 have := World.block_lt_of_cell? W _ hv
 exact this
theorem Res1.below {W W' : World} {b : Nat} (h : Res1 W b) (hb : Below W.heap.size W W') : Res1 W' b := by
 have hl := h.lt
 obtain ⟨v, hv⟩ := h.d
 exact ⟨⟨v, keep hv hb⟩, (hb.frozen (p := ⟨b, 0, none⟩) hl).trans h.z⟩
end Go.Proofs.YtbjlbmofdnkmiaaGreatDoor.Kit
namespace Go.Proofs.YtbjlbmofdnkmiaaGreatDoor
open Go Go.RowKit Go.Proofs.YtbjlbmofdnkmiaaGreatDoor.Kit
def seqR : Code → Code
 | .seq _ b => b
 | c => c
noncomputable def takenTail : Code := seqR (seqR (seqR (seqR (seqR (seqR (seqR (seqR (seqR (seqR ((Tryz.f53.body).getD .skip))))))))))
set_option maxHeartbeats 16000000 in
theorem takenOf_tail (x0 x2 x3 x4 x5 x7 x8 x11 x12 x13 x14 x15 x16 x17 x18 x19 x20 x21 x22 x23 x24 x25 x26 x27 x28 x29 x30 x31 x32 x33 x34 x35 x36 x37 x38 x39 x40 x41 x42 x43 x44 x45 x46 x47 x48 x49 x50 x51 x52 x53 x54 x55 x56 x57 x58 x59 x60 x61 x62 x63 x64 x65 x66 x67 x68 x69 x70 x71 x72 x73 x74 x75 x76 x77 x78 x79 x80 x81 x82 x83 x84 x85 x86 x87 x88 x89 x90 x91 x92 x93 x94 x95 x96 x97 x98 x99 x100 x101 x102 x103 x104 x105 x106 x107 x108 x109 x110 x111 x112 x113 x114 x115 x116 x117 x118 x119 x120 x121 x122 x123 x124 x125 x126 x127 x128 x129 x130 x131 x132 x133 x134 x135 x136 x137 x138 x139 x140 x141 x142 x143 x144 x145 x146 x147 x148 x149 x150 x151 x152 x153 x154 x155 x156 x157 x158 x159 x160 x161 x162 x163 x164 x165 x166 x167 x168 x169 x170 x171 x172 x173 x174 x175 x176 x177 x178 x179 x180 x181 x182 x183 x184 x185 x186 x187 x188 x189 x190 x191 x192 x193 x194 x195 x196 : Value) (w wr : World) (ob bb : Nat) (zf zt : Int) (xo : Option Addr) (fn xc : Nat) (yo : Option Addr) (tn yc : Nat) (fr : List Bk) (ty : List Int) (q : Bk) (o : Int) (Q : Ending → World → Prop)
    (J : TkI w ob bb zf zt xo fn xc yo tn yc fr ty q wr) (ho0 : 0 ≤ o) (hqo : o ≤ q.o) (q4 : q.o ≤ 4) (qa1 : 0 ≤ q.a) (qa2 : q.a ≤ 256) (hfn : fn ≤ 256) (htn : tn ≤ 256)
    (hQ : ∀ e w', RetZone3 w.heap.size w' ⟨zf, zt, putH q.a q.t o (q.o - o).toNat (dropB fr q.a q.o), ty⟩ q.a e → Below w.heap.size w w' → Q e w') :
    Code.wp Tryz.prog takenTail (bodyPost Tryz.prog Tryz.f53 Q) ⟨#[x0, .int .i64 o, x2, x3, x4, x5, .pointer (some ⟨w.heap.size + 1, 0, none⟩), x7, x8, .pointer (some ⟨ob, 0, none⟩), .pointer (some ⟨bb, 0, none⟩), x11, x12, x13, x14, x15, x16, x17, x18, x19, x20, x21, x22, x23, x24, x25, x26, x27, x28, x29, x30, x31, x32, x33, x34, x35, x36, x37, x38, x39, x40, x41, x42, x43, x44, x45, x46, x47, x48, x49, x50, x51, x52, x53, x54, x55, x56, x57, x58, x59, x60, x61, x62, x63, x64, x65, x66, x67, x68, x69, x70, x71, x72, x73, x74, x75, x76, x77, x78, x79, x80, x81, x82, x83, x84, x85, x86, x87, x88, x89, x90, x91, x92, x93, x94, x95, x96, x97, x98, x99, x100, x101, x102, x103, x104, x105, x106, x107, x108, x109, x110, x111, x112, x113, x114, x115, x116, x117, x118, x119, x120, x121, x122, x123, x124, x125, x126, x127, x128, x129, x130, x131, x132, x133, x134, x135, x136, x137, x138, x139, x140, x141, x142, x143, x144, x145, x146, x147, x148, x149, x150, x151, x152, x153, x154, x155, x156, x157, x158, x159, x160, x161, x162, x163, x164, x165, x166, x167, x168, x169, x170, x171, x172, x173, x174, x175, x176, x177, x178, x179, x180, x181, x182, x183, x184, x185, x186, x187, x188, x189, x190, x191, x192, x193, x194, x195, x196], []⟩ wr := by
 conv => arg 2; whnf
 have d2 := J.box.c2
 have hz2 := J.box.z2
 obtain ⟨u0, u1, u2, _, _, _⟩ := id J.tb
 have hBl := blks_own J.own (by omega)
 have lob := J.box.lt
 have lbb : bb < wr.heap.size := by have := World.block_lt_of_cell? wr _ u0; exact this
 have lto : ∀ a, yo = some a → a.block < wr.heap.size := fun a ha => by
  rcases J.typ.2 with ⟨e1, _⟩ | ⟨g, cp, cur, e1, _, hg, _⟩
  ·simp only [Value.slice.injEq] at e1
   rw [e1.1] at ha
   cases ha
  simp only [Value.slice.injEq] at e1
  rw [e1.1] at ha
  cases ha
  exact (Array.getElem?_eq_some_iff.1 hg).1
 have hob1 := J.ob1
 go_wp2_with fail
 go_at_call 77
 refine (without_any wr xo fn xc fr q.a q.o hBl).mono ?_
 rintro e w5 ⟨bo, m, c, rfl, ow, hb5⟩
 have J5 := J.below hb5
 have d2' := J5.box.c2
 have z2' := J5.box.z2
 have hml : m ≤ 256 := by have h1 := bowns_len ow; have h2 := dropB_len fr q.a q.o; have h3 := hBl.len; omega
 have J6 := J5.setFree (owns_weaken ow (by omega)) (fun a ha => by have := owns_fresh ow a ha; omega) (fun a a' ha ha' => by have := owns_fresh ow a ha; have := lto a' ha'; omega)
 obtain ⟨W6, hW6⟩ : ∃ W6, w5.setCell ⟨ob, 2, none⟩ (.slice bo m c) = W6 := ⟨_, rfl⟩
 rw [hW6] at J6
 have HW6 : Hid _ := hW6
 have r1 := J6.tb.c1
 have hw0 : IntKind.i64.wrap (q.o - 1) = q.o - 1 := IntWalk.i64_in _ (by omega)
 obtain ⟨FIN, hFIN⟩ : ∃ FIN, putH q.a q.t o (q.o - o).toNat (dropB fr q.a q.o) = FIN := ⟨_, rfl⟩
 have HFN : Hid _ := hFIN
 clear hW6 hFIN J5 J hBl d2 ow hb5 lto
 go_wp2_with (rw [HW6.out])
 clear HW6 r1 d2' z2' u0 u1 u2
 go_loopw [20] (fun ov wr => ∃ (k : Nat) (O : Int) (L : List Bk) (po : Option Addr) (pn pc : Nat), ov = .int .i64 O ∧ Hid (O = o + k - 1) ∧ o + (k : Int) ≤ 4 ∧ pn + k ≤ 300 ∧ Hid (putH q.a q.t o k L = FIN) ∧ TkI w ob bb zf zt po pn pc yo tn yc L ty q wr) (fun ov _ => (intOf ov - o + 1).toNat)
 case atStart => exact ⟨(q.o - o).toNat, q.o - 1, _, bo, m, c, rfl, by show _ = _; omega, by omega, by omega, HFN.out, J6⟩
 case round =>
  obtain ⟨k, O, L, po, pn, pc, rfl, hOk, hk4, hpn, hput, J⟩ := hrel
  clear J6
  by_cases hk0 : k = 0
  ·have hlt : O < o := by have := hOk.out; omega
   have hL : L = FIN := by have := hput.out; rw [hk0] at this; exact this
   rw [hL] at J
   obtain ⟨⟨x0, e0⟩, ⟨x1, e1⟩, ⟨x2, e2⟩, ⟨x3, e3⟩, y0, y1, y2, y3⟩ := id J.res
   have p0 := J.box.c0
   have p1 := J.box.c1
   have p2 := J.box.c2
   have p3 := J.box.c3
   have pa := J.tb.c0
   have ne1 : ¬ (bb = w.heap.size + 1) := by have := J.bb1; omega
   have ne2 : ¬ (w.heap.size + 1 = bb) := by have := J.bb1; omega
   have ne3 : ¬ (ob = w.heap.size + 1) := by have := J.ob1; omega
   have ne4 : ¬ (w.heap.size + 1 = ob) := by have := J.ob1; omega
   obtain ⟨k0, k1, k2, k3⟩ := res4 J.res (.int .i64 zf) (.int .i64 zt) (.slice po pn pc) (.slice yo tn yc)
   have hbt := but4 wr.drew (w.heap.size + 1) (.int .i64 zf) (.int .i64 zt) (.slice po pn pc) (.slice yo tn yc)
   have Bl : Below wr.heap.size wr wr.drew := (Below.refl wr.heap.size wr).drew
   have fp := owns_fresh J.own
   have fy := owns_fresh J.typ
   have BF := blks_own (owns_below J.own Bl (Nat.le_refl _)) (by omega)
   have NF := nums_of_owns (owns_below J.typ Bl (Nat.le_refl _)) (by omega)
   have BB := (J.b.trans (Bl.mono J.b.size)).trans (hbt.below (B := w.heap.size) (by omega) (Nat.le_trans J.b.size Bl.size))
   have FINI : RetZone3 w.heap.size ((((wr.drew.setCell ⟨w.heap.size + 1, 0, none⟩ (.int .i64 zf)).setCell ⟨w.heap.size + 1, 1, none⟩ (.int .i64 zt)).setCell ⟨w.heap.size + 1, 2, none⟩ (.slice po pn pc)).setCell ⟨w.heap.size + 1, 3, none⟩ (.slice yo tn yc)) ⟨zf, zt, FIN, ty⟩ q.a (.returned (.tuple #[.agg #[.int .i64 zf, .int .i64 zt, .slice po pn pc, .slice yo tn yc], .int .i64 q.a, .int .i64 0])) := ⟨_, _, _, _, _, _, rfl, hbt.zn ⟨BF, NF⟩ (fun a ha => by have := fp a ha; omega) (fun a ha => by have := fy a ha; omega), fun a ha => by have := fp a ha; omega, fun a ha => by have := fy a ha; omega⟩
   have HFI : Hid _ := FINI
   have HBB : Hid _ := BB
   clear FINI BB BF NF J hbt Bl hL
   go_wp2_with fail
   go_region
   all_goals
    try go_wp2_with fail
    refine bodyPost_ret (v := .tuple #[.agg #[.int .i64 zf, .int .i64 zt, .slice po pn pc, .slice yo tn yc], .int .i64 q.a, .int .i64 0]) (by simp [results, Tryz.results53, go_sem, k0, k1, k2, k3]) rfl (hQ _ _ ?_ HBB.out)
    rw [HFN.out]
    exact HFI.out
  obtain ⟨k', rfl⟩ : ∃ k', k = k' + 1 := ⟨k - 1, by omega⟩
  have hge : o ≤ O := by have := hOk.out; omega
  have eO : Hid (O = o + (k' : Int)) := by have := hOk.out; show _ = _; omega
  have hO4 : O ≤ 4 := by have := hOk.out; omega
  have hO0 : 0 ≤ O := by omega
  have p2 := J.box.c2
  have z2 := J.box.z2
  have pa := J.tb.c0
  have pt := J.tb.c2
  have hP := pw_pos O
  have hP2 := pw_le (o := O) ⟨hO0, hO4⟩
  obtain ⟨P, hPe⟩ : ∃ P, pw O = P := ⟨_, rfl⟩
  have HPW := power_v O P hO0 (by omega) hPe
  rw [hPe] at hP hP2
  have hwa : IntKind.i64.wrap (q.a + P) = q.a + P := IntWalk.i64_in _ (by omega)
  have hwo : IntKind.i64.wrap (O - 1) = O - 1 := IntWalk.i64_in _ (by omega)
  have hBl := blks_own J.own (by omega)
  have S1 : Below wr.heap.size wr { wr with drawn := wr.drawn + 1 } := (Below.refl wr.heap.size wr).drew
  have Q1 := And.intro (keep p2 S1) (And.intro (keep pa S1) (keep pt S1))
  have m0 : ∀ wx : World, (wx.cell? ⟨ob, 2, none⟩ = some (.slice po pn pc) ∧ wx.cell? ⟨bb, 0, none⟩ = some (.int .i64 q.a) ∧ wx.cell? ⟨bb, 2, none⟩ = some (.int .i64 q.t)) → wx.cell? ⟨ob, 2, none⟩ = some (.slice po pn pc) := fun wx h => h.1
  have m1 : ∀ wx : World, (wx.cell? ⟨ob, 2, none⟩ = some (.slice po pn pc) ∧ wx.cell? ⟨bb, 0, none⟩ = some (.int .i64 q.a) ∧ wx.cell? ⟨bb, 2, none⟩ = some (.int .i64 q.t)) → wx.cell? ⟨bb, 0, none⟩ = some (.int .i64 q.a) := fun wx h => h.2.1
  have m2 : ∀ wx : World, (wx.cell? ⟨ob, 2, none⟩ = some (.slice po pn pc) ∧ wx.cell? ⟨bb, 0, none⟩ = some (.int .i64 q.a) ∧ wx.cell? ⟨bb, 2, none⟩ = some (.int .i64 q.t)) → wx.cell? ⟨bb, 2, none⟩ = some (.int .i64 q.t) := fun wx h => h.2.2
  have hput2 : Hid (putH q.a q.t o k' (addB L ⟨q.a + P, O, q.t⟩) = FIN) := by
   show _ = _
   rw [← hput.out, ← hPe, eO.out]
   rfl
  clear hPe
  go_wp2_with fail
  refine wp_region_peel (S := fun wx => (wx.cell? ⟨ob, 2, none⟩ = some (.slice po pn pc) ∧ wx.cell? ⟨bb, 0, none⟩ = some (.int .i64 q.a) ∧ wx.cell? ⟨bb, 2, none⟩ = some (.int .i64 q.t))) 13 _ (by kernel_rfl) (by kernel_rfl) rfl ?_
  simp only [List.take_succ_cons, List.take_zero]
  refine tkH 0 (.pointer (some ⟨ob, 2, none⟩)) Q1 (h:=?_)
  refine tkH 1 (.slice po pn pc) Q1 (h:=?_)
  refine tkH 2 (.pointer (some ⟨bb, 0, none⟩)) Q1 (h:=?_)
  refine tkH 3 (.int .i64 q.a) Q1 (h:=?_)
  refine tkH 4 (.int .i64 O) Q1 (h:=?_)
  refine tkH 7 (.int .i64 O) Q1 (h:=?_)
  refine tkH 8 (.pointer (some ⟨bb, 2, none⟩)) Q1 (h:=?_)
  refine tkH 9 (.int .i64 q.t) Q1 (h:=?_)
  refine oneH 5 (by kernel_rfl) rfl rfl (fun K1 hK1 => ?_)
  go_simp
  refine (HPW _).mono ?_
  rintro e wq ⟨rfl, rfl⟩
  refine hK1 _ _ Q1 ?_
  try simp only [Act.put, List.setIfInBounds_toArray, List.set_cons_zero, List.set_cons_succ]
  refine tkH 6 (.int .i64 (q.a + P)) Q1 (h:=?_)
  refine tkH 10 (.agg #[.int .i64 (q.a + P), .int .i64 O, .int .i64 q.t]) Q1 (h:=?_)
  refine oneH 11 (by kernel_rfl) rfl rfl (fun K2 hK2 => ?_)
  go_simp
  refine (withBlock_any _ po pn pc L ⟨q.a + P, O, q.t⟩ (hBl.below S1) (by omega)).mono ?_
  rintro e w5 ⟨bo2, c2, rfl, ow5, hb5⟩
  have SA : Below wr.heap.size wr w5 := S1.trans (hb5.mono S1.size)
  have QA := And.intro (keep p2 SA) (And.intro (keep pa SA) (keep pt SA))
  refine hK2 _ _ QA ?_
  try simp only [Act.put, List.setIfInBounds_toArray, List.set_cons_zero, List.set_cons_succ]
  refine tkH 12 (.pointer (some ⟨ob, 2, none⟩)) QA (h:=?_)
  refine wpAnyH_done (by kernel_rfl) ?_ _
  show Oper.wp _ _ _ _ _ _
  have J5 := J.below SA
  have d2 := J5.box.c2
  have dz := J5.box.z2
  have lob2 := J.box.lt
  have lbb2 : bb < wr.heap.size := by have := World.block_lt_of_cell? wr _ pa; exact this
  have lto : ∀ a, yo = some a → a.block < wr.heap.size := fun a ha => by
   rcases J.typ.2 with ⟨e1, _⟩ | ⟨g, cp, cur, e1, _, hg, _⟩
   ·simp only [Value.slice.injEq] at e1
    rw [e1.1] at ha
    cases ha
   simp only [Value.slice.injEq] at e1
   rw [e1.1] at ha
   cases ha
   exact (Array.getElem?_eq_some_iff.1 hg).1
  have fo5 : Fresh wr.heap.size bo2 := (owns_fresh ow5).mono (by have := S1.size; exact this)
  have hob2 := J.ob1
  have J6 := J5.setFree (owns_weaken ow5 (by have := S1.size; simp at this ⊢; omega)) (fun a ha => by have := fo5 a ha; omega) (fun a a' ha ha' => by have := fo5 a ha; have := lto a' ha'; omega)
  have hOk2 : Hid (O - 1 = o + (k' : Int) - 1) := by have := eO.out; show _ = _; omega
  clear hK1 hK2 m0 m1 m2 J J5 hBl S1 Q1 SA QA HPW hput hOk eO lto fo5 ow5 hb5
  go_wp2_with fail
  go_roundw
  case rel => exact ⟨k', O - 1, _, bo2, pn + 1, c2, by simp, hOk2, by omega, by omega, hput2, J6⟩
  case measure => simp [intOf]; omega
def seqL : Code → Code
 | .seq a _ => a
 | c => c
def inBl : Code → Code
 | .block _ a => a
 | c => c
def inLp : Code → Code
 | .loop a => a
 | c => c
def condT : Code → Code
 | .cond _ a _ => a
 | c => c
theorem tin_qt (n lo hi : Int) (h : inB n lo hi = true) (w : World) : Calls Tryz.prog 21 #[.int .i64 n, .int .i64 lo, .int .i64 hi] w fun e w' => e = .returned (.bool true) ∧ w' = w :=
 (in_any n lo hi w).mono fun _ _ ⟨h1, h2⟩ => ⟨by rw [h1, h], h2.symm⟩
theorem tin_qf (n lo hi : Int) (h : inB n lo hi = false) (w : World) : Calls Tryz.prog 21 #[.int .i64 n, .int .i64 lo, .int .i64 hi] w fun e w' => e = .returned (.bool false) ∧ w' = w :=
 (in_any n lo hi w).mono fun _ _ ⟨h1, h2⟩ => ⟨by rw [h1, h], h2.symm⟩
noncomputable def takenSteal : Code := condT (seqR (seqR (seqR (inBl (seqL (seqR (inLp (inBl (seqR (seqL (seqR (seqR (seqR (seqR (seqR (seqR (seqR (seqR ((Tryz.f53.body).getD .skip)))))))))))))))))))
set_option maxHeartbeats 16000000 in
theorem takenOf_steal (x0 x1 x4 x5 x6 x7 x8 x11 x12 x14 x15 x16 x17 x18 x19 x20 x21 x22 x23 x24 x25 x26 x27 x28 x29 x30 x31 x32 x33 x34 x35 x36 x37 x38 x39 x40 x41 x42 x43 x44 x45 x46 x47 x48 x49 x50 x51 x52 x53 x54 x55 x56 x57 x58 x59 x60 x61 x62 x63 x64 x65 x66 x67 x68 x69 x70 x71 x72 x73 x74 x75 x76 x77 x78 x79 x80 x81 x82 x83 x84 x85 x86 x87 x88 x89 x90 x91 x92 x93 x94 x95 x96 x97 x98 x99 x100 x101 x102 x103 x104 x105 x106 x107 x108 x109 x110 x111 x112 x113 x114 x115 x116 x117 x118 x119 x120 x121 x122 x123 x124 x125 x126 x127 x128 x129 x130 x131 x132 x133 x134 x135 x136 x137 x138 x139 x140 x141 x142 x143 x144 x145 x146 x147 x148 x149 x150 x151 x152 x153 x154 x155 x156 x157 x158 x159 x160 x161 x162 x163 x164 x165 x166 x167 x168 x169 x170 x171 x172 x173 x174 x175 x176 x177 x178 x179 x180 x181 x182 x183 x184 x185 x186 x187 x188 x189 x190 x191 x192 x193 x194 x195 x196 : Value) (w wr : World) (ob bb : Nat) (z : Zn) (g fn xc yg tn yc : Nat) (q : Bk) (t O : Int) (Qx : Exit → Act → World → Prop)
    (J : TkI w ob bb z.f z.t (some ⟨g, 0, none⟩) fn xc (some ⟨yg, 0, none⟩) tn yc z.free z.types q wr) (hM : ZMay z) (hq : q ∈ z.free) (hO : Hid (q.o = O)) (h2 : 2 ≤ O)
    (hQ : ∀ (y16 y17 y18 y19 y88 y89 y90 y91 y92 y93 y94 y95 y96 y97 y98 y99 y100 y101 y102 y103 y104 y105 y106 y107 y108 y109 y110 y111 y112 y113 y114 y115 y116 y117 y118 y119 y120 y121 y122 y123 y124 y125 y126 y127 y128 y129 y130 y131 y132 y133 y134 y135 y136 y137 y138 y139 y140 y141 y142 y143 y144 y145 y146 y147 y148 y149 y150 y151 y152 y153 y154 y155 y156 y157 y158 : Value) W, TkI w ob bb z.f z.t (some ⟨g, 0, none⟩) fn xc (some ⟨yg, 0, none⟩) tn yc (stolenZ z q t).free (stolenZ z q t).types ⟨q.a, q.o, t⟩ W → Qx .normal ⟨#[x0, x1, .int .i64 t, .pointer (some ⟨w.heap.size, 0, none⟩), x4, x5, x6, x7, x8, .pointer (some ⟨ob, 0, none⟩), .pointer (some ⟨bb, 0, none⟩), x11, x12, .int .i64 O, x14, x15, y16, y17, y18, y19, x20, x21, x22, x23, x24, x25, x26, x27, x28, x29, x30, x31, x32, x33, x34, x35, x36, x37, x38, x39, x40, x41, x42, x43, x44, x45, x46, x47, x48, x49, x50, x51, x52, x53, x54, x55, x56, x57, x58, x59, x60, x61, x62, x63, x64, x65, x66, x67, x68, x69, x70, x71, x72, x73, x74, x75, x76, x77, x78, x79, x80, x81, x82, x83, x84, x85, x86, x87, y88, y89, y90, y91, y92, y93, y94, y95, y96, y97, y98, y99, y100, y101, y102, y103, y104, y105, y106, y107, y108, y109, y110, y111, y112, y113, y114, y115, y116, y117, y118, y119, y120, y121, y122, y123, y124, y125, y126, y127, y128, y129, y130, y131, y132, y133, y134, y135, y136, y137, y138, y139, y140, y141, y142, y143, y144, y145, y146, y147, y148, y149, y150, y151, y152, y153, y154, y155, y156, y157, y158, x159, x160, x161, x162, x163, x164, x165, x166, x167, x168, x169, x170, x171, x172, x173, x174, x175, x176, x177, x178, x179, x180, x181, x182, x183, x184, x185, x186, x187, x188, x189, x190, x191, x192, x193, x194, x195, x196], []⟩ W) :
    Code.wp Tryz.prog takenSteal Qx ⟨#[x0, x1, .int .i64 t, .pointer (some ⟨w.heap.size, 0, none⟩), x4, x5, x6, x7, x8, .pointer (some ⟨ob, 0, none⟩), .pointer (some ⟨bb, 0, none⟩), x11, x12, .int .i64 O, x14, x15, x16, x17, x18, x19, x20, x21, x22, x23, x24, x25, x26, x27, x28, x29, x30, x31, x32, x33, x34, x35, x36, x37, x38, x39, x40, x41, x42, x43, x44, x45, x46, x47, x48, x49, x50, x51, x52, x53, x54, x55, x56, x57, x58, x59, x60, x61, x62, x63, x64, x65, x66, x67, x68, x69, x70, x71, x72, x73, x74, x75, x76, x77, x78, x79, x80, x81, x82, x83, x84, x85, x86, x87, x88, x89, x90, x91, x92, x93, x94, x95, x96, x97, x98, x99, x100, x101, x102, x103, x104, x105, x106, x107, x108, x109, x110, x111, x112, x113, x114, x115, x116, x117, x118, x119, x120, x121, x122, x123, x124, x125, x126, x127, x128, x129, x130, x131, x132, x133, x134, x135, x136, x137, x138, x139, x140, x141, x142, x143, x144, x145, x146, x147, x148, x149, x150, x151, x152, x153, x154, x155, x156, x157, x158, x159, x160, x161, x162, x163, x164, x165, x166, x167, x168, x169, x170, x171, x172, x173, x174, x175, x176, x177, x178, x179, x180, x181, x182, x183, x184, x185, x186, x187, x188, x189, x190, x191, x192, x193, x194, x195, x196], []⟩ wr := by
 have HQ : Hid _ := hQ
 clear hQ
 conv => arg 2; whnf
 obtain ⟨⟨⟨q0', q4⟩, qa1, qa2, qa3⟩, _⟩ := (free_iff.1 hM.free).1 q hq
 obtain ⟨n1, n2, n3, n4, n5⟩ := hM.new
 have hlen : z.free.length = fn := bowns_len J.own
 have htlen : z.types.length = tn := owns_len J.typ
 have hbl := may_len hM
 have hty8 := hM.len
 rw [hO.out] at q0' q4 qa3
 have hP1 := pw_pos O
 have hP2 := pw_le (o := O) ⟨q0', q4⟩
 have hqe : q.a + pw O ≤ z.t := by rcases ord_cases (o := O) ⟨q0', q4⟩ with ⟨r, e⟩ | ⟨r, e⟩ | ⟨r, e⟩ | ⟨r, e⟩ | ⟨r, e⟩ <;> rw [e] at qa3 ⊢ <;> omega
 obtain ⟨P, hP⟩ : ∃ P, pw O = P := ⟨_, rfl⟩
 have HP : Hid _ := hP
 rw [hP] at hP1 hP2 hqe
 clear hP qa3
 have HPW := power_v O P q0' (by omega) HP.out
 obtain ⟨A, hA⟩ : ∃ A, q.a = A := ⟨_, rfl⟩
 have HA : Hid _ := hA
 have u0 := J.tb.c0
 rw [hA] at u0 qa1 qa2 hqe
 clear hA
 obtain ⟨X8, hX8⟩ : ∃ X8 : Nat, A / 8 = (X8 : Int) := ⟨(A / 8).toNat, by omega⟩
 obtain ⟨Y8, hY8⟩ : ∃ Y8 : Nat, (A + P - 1) / 8 = (Y8 : Int) := ⟨((A + P - 1) / 8).toNat, by omega⟩
 obtain ⟨E1, hE1⟩ : ∃ E1 : Int, A + P = E1 := ⟨_, rfl⟩
 obtain ⟨E2, hE2⟩ : ∃ E2 : Int, E1 - 1 = E2 := ⟨_, rfl⟩
 obtain ⟨X, hX⟩ : ∃ X : Int, (X8 : Int) * 8 = X := ⟨_, rfl⟩
 obtain ⟨Y, hY⟩ : ∃ Y : Int, (Y8 : Int) * 8 = Y := ⟨_, rfl⟩
 have td1 : A.tdiv 8 = (X8 : Int) := by rw [Int.tdiv_eq_ediv_of_nonneg (by omega)]; exact hX8
 have td2 : E2.tdiv 8 = (Y8 : Int) := by rw [Int.tdiv_eq_ediv_of_nonneg (by omega), ← hE2, ← hE1]; exact hY8
 have w1 : IntKind.i64.wrap (X8 : Int) = X8 := IntWalk.i64_in _ (by omega)
 have w2 : IntKind.i64.wrap (Y8 : Int) = Y8 := IntWalk.i64_in _ (by omega)
 have w3 : IntKind.i64.wrap X = X := IntWalk.i64_in _ (by omega)
 have w4 : IntKind.i64.wrap Y = Y := IntWalk.i64_in _ (by omega)
 have w5 : IntKind.i64.wrap E1 = E1 := IntWalk.i64_in _ (by omega)
 have w6 : IntKind.i64.wrap E2 = E2 := IntWalk.i64_in _ (by omega)
 have HX8 : Hid _ := hX8
 have HY8 : Hid _ := hY8
 clear hX8 hY8
 obtain ⟨F, hF⟩ : ∃ F : Nat, (A - z.f) / 8 = (F : Int) := ⟨((A - z.f) / 8).toNat, by omega⟩
 obtain ⟨L, hL⟩ : ∃ L : Nat, (E2 - z.f) / 8 = (L : Int) := ⟨((E2 - z.f) / 8).toNat, by omega⟩
 have hXF : X = z.f + 8 * (F : Int) := by have := HX8.out; omega
 have hYL : Y = z.f + 8 * (L : Int) := by have := HY8.out; omega
 have hFL : F ≤ L + 1 := by omega
 have hLn : L < tn := by omega
 have HF : Hid (grpF z q = (F : Int)) := by show grpF z q = F; unfold grpF; rw [HA.out]; exact hF
 have HL : Hid (grpL z q = (L : Int)) := by show grpL z q = L; unfold grpL; rw [HA.out, hO.out, HP.out, hE1, hE2]; exact hL
 have HRT : Hid (∀ x ∈ z.free, retypeB X Y t x = stealB z.f F L t x) := fun x hx => by
  have := retype_eq hM hq t hx
  rw [HA.out, hO.out, HP.out, hE1, hE2, HF.out, HL.out] at this
  rw [← this]
  congr 1
  ·have := HX8.out; omega
  have := HY8.out; rw [hE1, hE2] at this; omega
 have HXF : Hid _ := hXF
 have HYL : Hid _ := hYL
 have HE1 : Hid _ := hE1
 have HE2 : Hid _ := hE2
 clear hF hL hXF hYL
 have hY256 : Y ≤ 256 := by have := HYL.out; omega
 have hX0 : 0 ≤ X := by have := HXF.out; omega
 have hall := (free_iff.1 hM.free).1
 go_wp2_with fail
 go_quiet ((go_at_call 47; exact Calls.quiet_of_same (HPW _)))
 have J1 := J.below (below_drawn (w := wr) (by assumption))
 clear HPW td1 td2 w1 w2 w3 w4 w5 w6 u0
 generalize hWr : wr.drewN _ = W1 at J1 ⊢
 clear hWr J
 go_wp2_with fail
 go_loopw [18] (fun gv wq => ∃ (c : Nat) (G : Int), F + c ≤ L + 1 ∧ gv = .int .i64 G ∧ Hid (z.f + 8 * ((F + c : Nat) : Int) = G) ∧ TkI w ob bb z.f z.t (some ⟨g, 0, none⟩) fn xc (some ⟨yg, 0, none⟩) tn yc z.free (setR z.types F t c) q wq) (fun gv _ => (Y + 8 - intOf gv).toNat)
 case atStart => exact ⟨0, X, by omega, rfl, (by have := HXF.out; show z.f + 8 * ((F + 0 : Nat) : Int) = X; omega), J1⟩
 case round =>
  obtain ⟨c, G, hc, rfl, HG, Jr⟩ := hrel
  clear J1
  have y3 := Jr.box.c3
  have y4 := Jr.zin
  by_cases hlt : F + c ≤ L
  ·obtain ⟨⟨v0, q1⟩, q2, J5⟩ := Jr.setTy (c := F + c) (by omega) t
   obtain ⟨K, hK⟩ : ∃ K, F + c = K := ⟨_, rfl⟩
   have hset : setR z.types F t (c + 1) = (setR z.types F t c).set K t := by rw [← hK]; rfl
   rw [hK] at q1 q2 J5
   rw [← hset] at J5
   have hKn : K < tn := by omega
   have e1 : G ≤ Y := by have := HG.out; have := HYL.out; omega
   obtain ⟨D, hD⟩ : ∃ D, G - z.f = D := ⟨_, rfl⟩
   have HD : Hid _ := hD
   have eD : D = 8 * (K : Int) := by have := HG.out; omega
   have wD : IntKind.i64.wrap D = D := IntWalk.i64_in _ (by omega)
   have tD : D.tdiv 8 = (K : Int) := by rw [Int.tdiv_eq_ediv_of_nonneg (by omega)]; omega
   have wK : IntKind.i64.wrap (K : Int) = K := IntWalk.i64_in _ (by omega)
   have wG : IntKind.i64.wrap (G + 8) = G + 8 := IntWalk.i64_in _ (by omega)
   have HK : Hid _ := hK
   clear hK eD hset Jr
   go_wp2_with fail
   go_roundw
   case rel => exact ⟨c + 1, G + 8, by have := HK.out; omega, rfl, (by have := HG.out; show z.f + 8 * ((F + (c + 1) : Nat) : Int) = G + 8; omega), J5⟩
   case measure => simp [intOf]; omega
  have hcL : c = L + 1 - F := by omega
  have e1 : ¬ (G ≤ Y) := by have := HG.out; have := HYL.out; omega
  rw [hcL] at Jr
  obtain ⟨T, hT⟩ : ∃ T, setR z.types F t (L + 1 - F) = T := ⟨_, rfl⟩
  rw [hT] at Jr
  have HT : Hid _ := hT
  clear hT hcL y3 y4
  go_wp2_with fail
  go_loopw [19] (fun iv wq => ∃ i : Nat, i ≤ fn ∧ iv = .int .i64 i ∧ TkI w ob bb z.f z.t (some ⟨g, 0, none⟩) fn xc (some ⟨yg, 0, none⟩) tn yc (stealK z.f F L t z.free i) T q wq) (fun iv _ => fn - (intOf iv).toNat)
  case atStart => exact ⟨0, Nat.zero_le _, rfl, by rw [stealK_0]; exact Jr⟩
  case round =>
   obtain ⟨i, hi, rfl, Jq⟩ := hrel
   clear Jr
   have y2 := Jq.box.c2
   by_cases hin : i < fn
   ·obtain ⟨⟨x, y, u⟩, hXq0⟩ : ∃ b, z.free.getD i .zero = b := ⟨_, rfl⟩
    have hXq : (stealK z.f F L t z.free i).getD i .zero = ⟨x, y, u⟩ := by rw [stealK_at _ _ _ _ (by omega)]; exact hXq0
    have hsucc := stealK_succ z.f F L t (l := z.free) (by omega) hXq0
    have hmem : (⟨x, y, u⟩ : Bk) ∈ z.free := by rw [← hXq0, List.getD_eq_getElem?_getD, List.getElem?_eq_getElem (by omega)]; exact List.getElem_mem _
    obtain ⟨⟨⟨x0', x4'⟩, x1', x2', x3'⟩, _⟩ := hall _ hmem
    dsimp only at x0' x4' x1' x2' x3'
    have hp1 := pw_pos y
    have hp2 := pw_le (o := y) ⟨x0', x4'⟩
    obtain ⟨PY, hPY⟩ : ∃ PY, pw y = PY := ⟨_, rfl⟩
    have HPY : Hid _ := hPY
    rw [hPY] at hp1 hp2
    have HPW := power_v y PY x0' (by omega) HPY.out
    have HRX := HRT.out _ hmem
    unfold retypeB at HRX
    dsimp only at HRX
    rw [hPY] at HRX
    rw [← HRX] at hsucc
    have x256 : x ≤ 256 := by rw [hPY] at x3'; omega
    have qa : wr.cell? ⟨g, i * 3, none⟩ = some (.int .i64 x) := by
     have := Jq.own.cellAt (i * 3) (by omega)
     rw [this]
     have h2 := bvals_0 (stealK z.f F L t z.free i) i (by rw [stealK_len]; omega)
     rw [hXq] at h2
     exact h2
    have qb : wr.cell? ⟨g, i * 3 + 1, none⟩ = some (.int .i64 y) := by
     have := Jq.own.cellAt (i * 3 + 1) (by omega)
     rw [this]
     have h2 := bvals_1 (stealK z.f F L t z.free i) i (by rw [stealK_len]; omega)
     rw [hXq] at h2
     exact h2
    obtain ⟨Y7, hY7⟩ : ∃ Y7, Y + 7 = Y7 := ⟨_, rfl⟩
    obtain ⟨Y9, hY9⟩ : ∃ Y9, Y + 8 = Y9 := ⟨_, rfl⟩
    obtain ⟨XE, hXE⟩ : ∃ XE, x + PY = XE := ⟨_, rfl⟩
    have w7 : IntKind.i64.wrap Y7 = Y7 := IntWalk.i64_in _ (by omega)
    have w9 : IntKind.i64.wrap Y9 = Y9 := IntWalk.i64_in _ (by omega)
    have wE : IntKind.i64.wrap XE = XE := IntWalk.i64_in _ (by omega)
    have hii : (i : Int) < fn := by omega
    have HXq : Hid ((stealK z.f F L t z.free i).getD i .zero = ⟨x, y, u⟩) := hXq
    rw [hY7, hY9, hXE] at hsucc
    have HSu : Hid _ := hsucc
    have x1'' := x1'
    clear HRX hXq0 hXq hsucc hPY hmem x3'
    by_cases c1 : X ≤ x ∧ x ≤ Y7
    ·have b1 : inB x X Y7 = true := inB_t c1
     have HB1 : Hid _ := b1
     have HIN := tin_qt x X Y7 HB1.out
     clear b1
     by_cases c2 : XE ≤ Y9
     ·have b2 : decide (XE ≤ Y9) = true := decide_eq_true c2
      have HSS : Hid ((if (X ≤ x ∧ x ≤ Y7) ∧ XE ≤ Y9 then (⟨x, y, t⟩ : Bk) else ⟨x, y, u⟩) = ⟨x, y, t⟩) := if_pos ⟨c1, c2⟩
      clear c1
      go_wp2_with fail
      go_quiet (first | (go_at_call 47; exact Calls.quiet_of_same (HPW _)) | (go_at_call 21; exact Calls.quiet_of_same (HIN _)))
      have J6 := Jq.below (below_drawn (w := wr) (by assumption))
      have y2' := J6.box.c2
      obtain ⟨⟨v0, q1⟩, q2, J7⟩ := J6.setBt (i := i) hin t
      rw [HXq.out] at J7
      dsimp only at J7
      have e8 : (stealK z.f F L t z.free i).set i ⟨x, y, t⟩ = stealK z.f F L t z.free (i + 1) := by rw [HSu.out, HSS.out]
      rw [e8] at J7
      clear e8
      clear J6 Jq HPW HIN y2 qa qb
      go_wp2
      go_roundw
      case rel => exact ⟨i + 1, by omega, by go_num, J7⟩
      case measure => simp [intOf]; omega
     have b2 : decide (XE ≤ Y9) = false := decide_eq_false c2
     have HSS : Hid ((if (X ≤ x ∧ x ≤ Y7) ∧ XE ≤ Y9 then (⟨x, y, t⟩ : Bk) else ⟨x, y, u⟩) = ⟨x, y, u⟩) := if_neg (fun g => c2 g.2)
     clear c1
     have hset : (stealK z.f F L t z.free i).set i ⟨x, y, u⟩ = stealK z.f F L t z.free i := by
      have h3 := HXq.out
      rw [List.getD_eq_getElem?_getD, List.getElem?_eq_getElem (by rw [stealK_len]; omega)] at h3
      simp only [Option.getD_some] at h3
      rw [← h3]
      exact List.set_getElem_self _
     have HSE : Hid (stealK z.f F L t z.free (i + 1) = stealK z.f F L t z.free i) := by
      have h3 := HSu.out
      rw [HSS.out, hset] at h3
      exact h3
     clear hset
     go_wp2_with fail
     go_quiet (first | (go_at_call 47; exact Calls.quiet_of_same (HPW _)) | (go_at_call 21; exact Calls.quiet_of_same (HIN _)))
     have J6 := Jq.below (below_drawn (w := wr) (by assumption))
     clear Jq HIN y2 qa qb
     go_wp2
     go_roundw
     case rel => exact ⟨i + 1, by omega, by go_num, by rw [HSE.out]; exact J6⟩
     case measure => simp [intOf]; omega
    have b1 : inB x X Y7 = false := inB_f c1
    have HB1 : Hid _ := b1
    have HIN := tin_qf x X Y7 HB1.out
    have HSS : Hid ((if (X ≤ x ∧ x ≤ Y7) ∧ XE ≤ Y9 then (⟨x, y, t⟩ : Bk) else ⟨x, y, u⟩) = ⟨x, y, u⟩) := if_neg (fun g => c1 g.1)
    clear b1 c1 HPW
    have hset : (stealK z.f F L t z.free i).set i ⟨x, y, u⟩ = stealK z.f F L t z.free i := by
     have h3 := HXq.out
     rw [List.getD_eq_getElem?_getD, List.getElem?_eq_getElem (by rw [stealK_len]; omega)] at h3
     simp only [Option.getD_some] at h3
     rw [← h3]
     exact List.set_getElem_self _
    have HSE : Hid (stealK z.f F L t z.free (i + 1) = stealK z.f F L t z.free i) := by
     have h3 := HSu.out
     rw [HSS.out, hset] at h3
     exact h3
    clear hset
    go_wp2_with fail
    go_quiet ((go_at_call 21; exact Calls.quiet_of_same (HIN _)))
    have J6 := Jq.below (below_drawn (w := wr) (by assumption))
    clear Jq HIN y2 qa qb
    go_wp2
    go_roundw
    case rel => exact ⟨i + 1, by omega, by go_num, by rw [HSE.out]; exact J6⟩
    case measure => simp [intOf]; omega
   have hfi : i = fn := by omega
   rw [show stealK z.f F L t z.free i = z.free.map (stealB z.f F L t) by rw [hfi, ← hlen, stealK_all]] at Jq
   have J9 := Jq.setQt t
   have u2 := Jq.tb.c2
   have z2 := Jq.tb.z2
   have hii : ¬ ((i : Int) < fn) := by omega
   have ea : z.free.map (stealB z.f F L t) = (stolenZ z q t).free := by unfold stolenZ; dsimp only; rw [HF.out, HL.out]
   have eb : T = (stolenZ z q t).types := by unfold stolenZ; dsimp only; rw [HF.out, HL.out, Int.toNat_natCast, Int.toNat_natCast, HT.out]
   rw [ea, eb] at J9
   clear ea eb Jq hfi
   go_wp2
   exact HQ.out _ _ _ _ _ _ _ _ _ _ _ _ _ _ _ _ _ _ _ _ _ _ _ _ _ _ _ _ _ _ _ _ _ _ _ _ _ _ _ _ _ _ _ _ _ _ _ _ _ _ _ _ _ _ _ _ _ _ _ _ _ _ _ _ _ _ _ _ _ _ _ _ _ _ _ _ J9
noncomputable def takenEnd : Code := seqR (seqR (seqR (seqR (seqR (seqR (seqR (seqR (seqR ((Tryz.f53.body).getD .skip)))))))))
set_option maxHeartbeats 16000000 in
theorem takenOf_end_t (x0 x2 x3 x4 x5 x7 x8 x12 x13 x14 x15 x16 x17 x18 x19 x20 x21 x22 x23 x24 x25 x26 x27 x28 x29 x30 x31 x32 x33 x34 x35 x36 x37 x38 x39 x40 x41 x42 x43 x44 x45 x46 x47 x48 x49 x50 x51 x52 x53 x54 x55 x56 x57 x58 x59 x60 x61 x62 x63 x64 x65 x66 x67 x68 x69 x70 x71 x72 x73 x74 x75 x76 x77 x78 x79 x80 x81 x82 x83 x84 x85 x86 x87 x88 x89 x90 x91 x92 x93 x94 x95 x96 x97 x98 x99 x100 x101 x102 x103 x104 x105 x106 x107 x108 x109 x110 x111 x112 x113 x114 x115 x116 x117 x118 x119 x120 x121 x122 x123 x124 x125 x126 x127 x128 x129 x130 x131 x132 x133 x134 x135 x136 x137 x138 x139 x140 x141 x142 x143 x144 x145 x146 x147 x148 x149 x150 x151 x152 x153 x154 x155 x156 x157 x158 x159 x160 x161 x162 x163 x164 x165 x166 x167 x168 x169 x170 x171 x172 x173 x174 x175 x176 x177 x178 x179 x180 x181 x182 x183 x184 x185 x186 x187 x188 x189 x190 x191 x192 x193 x194 x195 x196 : Value) (w wr : World) (ob bb : Nat) (zf zt : Int) (xo : Option Addr) (fn xc : Nat) (yo : Option Addr) (tn yc : Nat) (fr : List Bk) (ty : List Int) (q : Bk) (o : Int) (Q : Ending → World → Prop)
    (J : TkI w ob bb zf zt xo fn xc yo tn yc fr ty q wr) (ho0 : 0 ≤ o) (hqo : o ≤ q.o) (q4 : q.o ≤ 4) (qa1 : 0 ≤ q.a) (qa2 : q.a ≤ 256) (hfn : fn ≤ 256) (htn : tn ≤ 256)
    (hQ : ∀ e w', RetZone3 w.heap.size w' ⟨zf, zt, putH q.a q.t o (q.o - o).toNat (dropB fr q.a q.o), ty⟩ q.a e → Below w.heap.size w w' → Q e w') :
    Code.wp Tryz.prog takenEnd (bodyPost Tryz.prog Tryz.f53 Q) ⟨#[x0, .int .i64 o, x2, x3, x4, x5, .pointer (some ⟨w.heap.size + 1, 0, none⟩), x7, x8, .pointer (some ⟨ob, 0, none⟩), .pointer (some ⟨bb, 0, none⟩), .bool true, x12, x13, x14, x15, x16, x17, x18, x19, x20, x21, x22, x23, x24, x25, x26, x27, x28, x29, x30, x31, x32, x33, x34, x35, x36, x37, x38, x39, x40, x41, x42, x43, x44, x45, x46, x47, x48, x49, x50, x51, x52, x53, x54, x55, x56, x57, x58, x59, x60, x61, x62, x63, x64, x65, x66, x67, x68, x69, x70, x71, x72, x73, x74, x75, x76, x77, x78, x79, x80, x81, x82, x83, x84, x85, x86, x87, x88, x89, x90, x91, x92, x93, x94, x95, x96, x97, x98, x99, x100, x101, x102, x103, x104, x105, x106, x107, x108, x109, x110, x111, x112, x113, x114, x115, x116, x117, x118, x119, x120, x121, x122, x123, x124, x125, x126, x127, x128, x129, x130, x131, x132, x133, x134, x135, x136, x137, x138, x139, x140, x141, x142, x143, x144, x145, x146, x147, x148, x149, x150, x151, x152, x153, x154, x155, x156, x157, x158, x159, x160, x161, x162, x163, x164, x165, x166, x167, x168, x169, x170, x171, x172, x173, x174, x175, x176, x177, x178, x179, x180, x181, x182, x183, x184, x185, x186, x187, x188, x189, x190, x191, x192, x193, x194, x195, x196], []⟩ wr := by
 have HQ : Hid _ := hQ
 clear hQ
 conv => arg 2; whnf
 conv => arg 2; arg 2; change takenTail
 go_wp2_with fail
 exact takenOf_tail _ _ _ _ _ _ _ _ _ _ _ _ _ _ _ _ _ _ _ _ _ _ _ _ _ _ _ _ _ _ _ _ _ _ _ _ _ _ _ _ _ _ _ _ _ _ _ _ _ _ _ _ _ _ _ _ _ _ _ _ _ _ _ _ _ _ _ _ _ _ _ _ _ _ _ _ _ _ _ _ _ _ _ _ _ _ _ _ _ _ _ _ _ _ _ _ _ _ _ _ _ _ _ _ _ _ _ _ _ _ _ _ _ _ _ _ _ _ _ _ _ _ _ _ _ _ _ _ _ _ _ _ _ _ _ _ _ _ _ _ _ _ _ _ _ _ _ _ _ _ _ _ _ _ _ _ _ _ _ _ _ _ _ _ _ _ _ _ _ _ _ _ _ _ _ _ _ _ _ _ _ _ _ _ _ _ _ _ _ _ _ _ _ w wr ob bb zf zt xo fn xc yo tn yc fr ty q o Q J ho0 hqo q4 qa1 qa2 hfn htn HQ.out
set_option maxHeartbeats 16000000 in
theorem takenOf_end_f (x0 x2 x3 x4 x5 x7 x8 x12 x13 x14 x15 x16 x17 x18 x19 x20 x21 x22 x23 x24 x25 x26 x27 x28 x29 x30 x31 x32 x33 x34 x35 x36 x37 x38 x39 x40 x41 x42 x43 x44 x45 x46 x47 x48 x49 x50 x51 x52 x53 x54 x55 x56 x57 x58 x59 x60 x61 x62 x63 x64 x65 x66 x67 x68 x69 x70 x71 x72 x73 x74 x75 x76 x77 x78 x79 x80 x81 x82 x83 x84 x85 x86 x87 x88 x89 x90 x91 x92 x93 x94 x95 x96 x97 x98 x99 x100 x101 x102 x103 x104 x105 x106 x107 x108 x109 x110 x111 x112 x113 x114 x115 x116 x117 x118 x119 x120 x121 x122 x123 x124 x125 x126 x127 x128 x129 x130 x131 x132 x133 x134 x135 x136 x137 x138 x139 x140 x141 x142 x143 x144 x145 x146 x147 x148 x149 x150 x151 x152 x153 x154 x155 x156 x157 x158 x159 x160 x161 x162 x163 x164 x165 x166 x167 x168 x169 x170 x171 x172 x173 x174 x175 x176 x177 x178 x179 x180 x181 x182 x183 x184 x185 x186 x187 x188 x189 x190 x191 x192 x193 x194 x195 x196 : Value) (w wr : World) (ob bb : Nat) (o : Int) (Q : Ending → World → Prop) (hres : Res4 wr (w.heap.size + 1)) (hbl : Below w.heap.size w wr)
    (hQ : ∀ e w', RetNone3 6 e → Below w.heap.size w w' → Q e w') :
    Code.wp Tryz.prog takenEnd (bodyPost Tryz.prog Tryz.f53 Q) ⟨#[x0, .int .i64 o, x2, x3, x4, x5, .pointer (some ⟨w.heap.size + 1, 0, none⟩), x7, x8, .pointer (some ⟨ob, 0, none⟩), .pointer (some ⟨bb, 0, none⟩), .bool false, x12, x13, x14, x15, x16, x17, x18, x19, x20, x21, x22, x23, x24, x25, x26, x27, x28, x29, x30, x31, x32, x33, x34, x35, x36, x37, x38, x39, x40, x41, x42, x43, x44, x45, x46, x47, x48, x49, x50, x51, x52, x53, x54, x55, x56, x57, x58, x59, x60, x61, x62, x63, x64, x65, x66, x67, x68, x69, x70, x71, x72, x73, x74, x75, x76, x77, x78, x79, x80, x81, x82, x83, x84, x85, x86, x87, x88, x89, x90, x91, x92, x93, x94, x95, x96, x97, x98, x99, x100, x101, x102, x103, x104, x105, x106, x107, x108, x109, x110, x111, x112, x113, x114, x115, x116, x117, x118, x119, x120, x121, x122, x123, x124, x125, x126, x127, x128, x129, x130, x131, x132, x133, x134, x135, x136, x137, x138, x139, x140, x141, x142, x143, x144, x145, x146, x147, x148, x149, x150, x151, x152, x153, x154, x155, x156, x157, x158, x159, x160, x161, x162, x163, x164, x165, x166, x167, x168, x169, x170, x171, x172, x173, x174, x175, x176, x177, x178, x179, x180, x181, x182, x183, x184, x185, x186, x187, x188, x189, x190, x191, x192, x193, x194, x195, x196], []⟩ wr := by
 have HQ : Hid _ := hQ
 clear hQ
 conv => arg 2; whnf
 conv => arg 2; arg 2; change takenTail
 obtain ⟨k0, k1, k2, k3⟩ := res4 hres (.int .i64 0) (.int .i64 0) (.slice none 0 0) (.slice none 0 0)
 have hbt := but4 wr (w.heap.size + 1) (.int .i64 0) (.int .i64 0) (.slice none 0 0) (.slice none 0 0)
 have HB : Hid _ := hbl.trans (hbt.below (by omega) hbl.size)
 obtain ⟨⟨v0, e0⟩, ⟨v1, e1⟩, ⟨v2, e2⟩, ⟨v3, e3⟩, y0, y1, y2, y3⟩ := hres
 clear hbt
 go_wp2_with fail
 exact bodyPost_ret (v := .tuple #[.agg #[.int .i64 0, .int .i64 0, .slice none 0 0, .slice none 0 0], .int .i64 0, .int .i64 6]) (by simp [results, Tryz.results53, go_sem, k0, k1, k2, k3]) rfl (HQ.out _ _ rfl HB.out)
def StF (z : Zn) (t : Int) (fd : Bool) (q0 q : Bk) (fr : List Bk) (ty : List Int) : Prop :=
 if fd = true then (if 2 ≤ q0.o then fr = (stolenZ z q0 t).free ∧ ty = (stolenZ z q0 t).types ∧ q = ⟨q0.a, q0.o, t⟩ else fr = z.free ∧ ty = z.types ∧ q = q0) else fr = z.free ∧ ty = z.types
theorem StF_len {z : Zn} {t : Int} {fd : Bool} {q0 q : Bk} {fr : List Bk} {ty : List Int} (h : StF z t fd q0 q fr ty) : ty.length = z.types.length := by
 unfold StF at h
 split at h
 ·split at h
  ·rw [h.2.1]
   unfold stolenZ
   exact setR_len _ _ _ _
  rw [h.2.1]
 rw [h.2]
theorem dnB_in {l : List Bk} {u v o : Int} : ∀ {n : Nat} {b : Bk}, dnB l u v o n = some b → b ∈ l ∧ (b.t = u ∨ b.t = v) ∧ o ≤ b.o := by
 intro n
 induction n with
 | zero => intro b h; cases h
 | succ n ih =>
  intro b h
  unfold dnB at h
  split at h
  ·rename_i b' hb
   cases h
   obtain ⟨h1, h2, h3⟩ := lowF_in hb
   exact ⟨h1, .inl h3, by omega⟩
  split at h
  ·rename_i b' hb
   cases h
   obtain ⟨h1, h2, h3⟩ := lowF_in hb
   exact ⟨h1, .inr h3, by omega⟩
  exact ih h
theorem inF_in {l : List Bk} {u v O : Int} {k : Nat} {q : Bk} (h : InF l u v O true k q) : q ∈ l ∧ q.o = O := by
 unfold InF at h
 simp only [if_true] at h
 rcases h with g | ⟨_, g⟩
 ·exact ⟨(lowF_in g).1, (lowF_in g).2.1⟩
 exact ⟨(lowF_in g).1, (lowF_in g).2.1⟩
theorem oth_ne {t u : Int} (ht : typeOk t) (h : u = oth0 t ∨ u = oth1 t) : u ≠ t := by
 obtain ⟨h0, h2⟩ := ht
 unfold oth0 oth1 at h
 rcases h with h | h <;> split at h <;> omega
theorem up_done {z : Zn} (hM : ZMay z) {o t : Int} (ho : ordOk o) {q : Bk} (hup : upB z.free t (5 - o).toNat o = some q) :
    (∃ i : Nat, chooseI z.free o t = i ∧ takeZ z o t i = ⟨z.f, z.t, putH q.a q.t o (q.o - o).toNat (dropB z.free q.a q.o), z.types⟩ ∧ q.a = (z.free.getD i .zero).a) ∧ o ≤ q.o ∧ q.o ≤ 4 ∧ 0 ≤ q.a ∧ q.a ≤ 256 := by
 obtain ⟨hqm, hqt, hqo⟩ := upB_in hup
 obtain ⟨⟨⟨q0', q4⟩, qa1, qa2, qa3⟩, _⟩ := (free_iff.1 hM.free).1 q hqm
 obtain ⟨n1, n2, n3, n4, n5⟩ := hM.new
 refine ⟨?_, hqo, q4, by omega, by have := pw_pos q.o; omega⟩
 have hp := pick_eq z.free o t
 rw [hup] at hp
 dsimp only at hp
 by_cases hc : 0 ≤ chooseI z.free o t
 ·rw [if_pos hc] at hp
  have e := Option.some.inj hp
  refine ⟨(chooseI z.free o t).toNat, by omega, ?_⟩
  obtain ⟨g1, g2, _⟩ := taken_eq hM ho (i := (chooseI z.free o t).toNat) (by omega) e.symm (.inr ⟨fun g => g.1 hqt, rfl, rfl, rfl⟩)
  exact ⟨g1, by rw [← e]⟩
 rw [if_neg hc] at hp
 cases hp
theorem dn_done {z : Zn} (hM : ZMay z) {o t O : Int} (ho : ordOk o) (ht : typeOk t) {q0 q : Bk} {fr : List Bk} {ty : List Int} (hup : upB z.free t (5 - o).toNat o = none) (hD : DnF z.free (oth0 t) (oth1 t) o true O q0) (hS : StF z t true q0 q fr ty) :
    (∃ i : Nat, chooseI z.free o t = i ∧ takeZ z o t i = ⟨z.f, z.t, putH q.a q.t o (q.o - o).toNat (dropB fr q.a q.o), ty⟩ ∧ q.a = (z.free.getD i .zero).a) ∧ o ≤ q.o ∧ q.o ≤ 4 ∧ 0 ≤ q.a ∧ q.a ≤ 256 := by
 unfold DnF at hD
 simp only [if_true] at hD
 obtain ⟨hqm, hqt, hqo⟩ := dnB_in hD
 have hne := oth_ne ht hqt
 obtain ⟨⟨⟨q0', q4⟩, qa1, qa2, qa3⟩, _⟩ := (free_iff.1 hM.free).1 q0 hqm
 obtain ⟨n1, n2, n3, n4, n5⟩ := hM.new
 have hpp := pw_pos q0.o
 unfold StF at hS
 simp only [if_true] at hS
 have hs : (steals q0 t ∧ fr = (stolenZ z q0 t).free ∧ ty = (stolenZ z q0 t).types ∧ q = ⟨q0.a, q0.o, t⟩) ∨ (¬ steals q0 t ∧ fr = z.free ∧ ty = z.types ∧ q = q0) := by
  by_cases h2 : 2 ≤ q0.o
  ·rw [if_pos h2] at hS
   exact .inl ⟨⟨hne, h2⟩, hS⟩
  rw [if_neg h2] at hS
  exact .inr ⟨fun g => h2 g.2, hS⟩
 have hq : q.a = q0.a ∧ q.o = q0.o := by
  rcases hs with ⟨_, _, _, e⟩ | ⟨_, _, _, e⟩ <;> rw [e] <;> exact ⟨rfl, rfl⟩
 refine ⟨?_, by omega, by omega, by omega, by omega⟩
 have hp := pick_eq z.free o t
 have hD' : dnB z.free (other1 t) (other2 t) o (5 - o).toNat = some q0 := hD
 rw [hup] at hp
 dsimp only at hp
 rw [hD'] at hp
 by_cases hc : 0 ≤ chooseI z.free o t
 ·rw [if_pos hc] at hp
  have e := Option.some.inj hp
  refine ⟨(chooseI z.free o t).toNat, by omega, ?_⟩
  obtain ⟨g1, g2, _⟩ := taken_eq hM ho (i := (chooseI z.free o t).toNat) (by omega) e.symm hs
  exact ⟨g1, by rw [← e]; exact g2⟩
 rw [if_neg hc] at hp
 cases hp
theorem dn_none {z : Zn} {o t O : Int} {q0 : Bk} (hup : upB z.free t (5 - o).toNat o = none) (hD : DnF z.free (oth0 t) (oth1 t) o false O q0) (hO : O = o - 1) : chooseI z.free o t < 0 := by
 unfold DnF at hD
 simp only [Bool.false_eq_true, if_false] at hD
 rw [show (O + 1 - o).toNat = 0 by omega] at hD
 have hD' : dnB z.free (other1 t) (other2 t) o (5 - o).toNat = none := hD
 have hp := pick_eq z.free o t
 rw [hup] at hp
 dsimp only at hp
 rw [hD'] at hp
 by_cases hc : 0 ≤ chooseI z.free o t
 ·rw [if_pos hc] at hp
  cases hp
 omega
end Go.Proofs.YtbjlbmofdnkmiaaGreatDoor
