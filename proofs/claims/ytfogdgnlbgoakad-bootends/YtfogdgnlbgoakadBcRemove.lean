/-
  OWN TEXT. Contracts of the code: one of Add, Remove, Reserve, Free, and its closure.
-/
import Derived.Test.YtfogdgnlbgoakadBcChg
import Derived.Test.YtfogdgnlbgoakadBcChgN
namespace Go.Proofs.Ytfogdgnlbgoakad
open Go Go.RowKit Go.Proofs.Ytfogdgnlbgoakad.Kit

theorem cRemove_call (args : Array Value) (W : World) : (callFunc 32 args).run Try.prog W = .ok (.enter 32 args) W := by kernel_rfl

theorem cRemoveF_does (w : World) (rb f s : Nat) (hfs : f + s ≤ 256) (c0 : w.cell? ⟨rb, 0, none⟩ = some (.int .i64 f)) (c1 : w.cell? ⟨rb, 1, none⟩ = some (.int .i64 s)) : DoesTo 32 (.pointer (some ⟨rb, 0, none⟩)) false false f s w := by
  intro W x y g h hb hx hy hxy _ _
  have d0 := keep c0 hb
  have d1 := keep c1 hb
  go_enter Try.func32, Try.ntmps32
  go_wp2_with fail
  go_at_call 30
  refine (bset_any W x g f s false (by assumption) hfs).mono ?_
  rintro e w1 ⟨rfl, h1, h2⟩
  go_wp2
  go_end0
  first
    | exact ⟨rfl, h1, hy.but h2 (Ne.symm hxy), h2⟩
    | exact ⟨rfl, hx.but h2 hxy, h1, h2⟩

set_option maxHeartbeats 1000000 in
theorem cRemove_state (w : World) (mo : Option Addr) (mn mc : Nat) (M : List (Int × Int)) (ro : Option Addr) (rn rc : Nat) (R : List (Int × Int)) (f s : Int) (hm : Regs w mo mn M) (hr : Regs w ro rn R) (tm : TopL M) (tr : TopL R) (h : ¬ (MayP M ∧ MayP R)) :
    Calls Try.prog 20 #[.agg #[.slice mo mn mc, .slice ro rn rc], .agg #[.int .i64 f, .int .i64 s]] w fun e w' => e = .returned (.tuple #[.agg #[.slice none 0 0, .slice none 0 0], .int .i64 8]) ∧ Below w.heap.size w w' := by
  have hb3 : Below w.heap.size w (((w.alloc (.cells #[.slice mo mn mc, .slice ro rn rc] 25)).alloc (.cells #[.int .i64 f, .int .i64 s] 35)).alloc (.cells #[.slice none 0 0, .slice none 0 0] 25)) := (((Below.refl _ _).alloc (Nat.le_refl _) _).alloc (by simp) _).alloc (by simp; omega) _
  have R3 : Res2 (((w.alloc (.cells #[.slice mo mn mc, .slice ro rn rc] 25)).alloc (.cells #[.int .i64 f, .int .i64 s] 35)).alloc (.cells #[.slice none 0 0, .slice none 0 0] 25)) (w.heap.size + 1 + 1) := ⟨⟨_, by go_simp; rfl⟩, ⟨_, by go_simp; rfl⟩, by go_simp, by go_simp⟩
  go_enter Try.func20, Try.ntmps20
  go_wp2_with fail
  go_at_call 28
  refine (chg_state _ mo mn mc M ro rn rc R f s (w.heap.size + 1) 32 (hm.below hb3) (hr.below hb3) (by go_simp) (by go_simp) tm tr h).mono ?_
  rintro e w1 ⟨rfl, hb⟩
  obtain ⟨⟨x0, d0⟩, ⟨x1, d1⟩, z0, z1⟩ := R3.below hb
  have hB := hb3.trans (hb.mono hb3.size)
  clear tm tr
  go_wp2
  obtain ⟨k0, k1⟩ := res2 d0 d1 (.slice none 0 0) (.slice none 0 0)
  exact bodyPost_ret (v := .tuple #[.agg #[.slice none 0 0, .slice none 0 0], .int .i64 8]) (by simp [results, Try.results20, go_sem, k0, k1]) rfl ⟨rfl, below2 hB (by omega) _ _⟩

set_option maxHeartbeats 1000000 in
theorem cRemove_range (w : World) (mo : Option Addr) (mn mc : Nat) (M : List (Int × Int)) (ro : Option Addr) (rn rc : Nat) (R : List (Int × Int)) (f s : Int) (hm : Regs w mo mn M) (hr : Regs w ro rn R) (hM : MayP M ∧ MayP R) (hs : s ≤ 9223372036854775807) (h : ¬ regOk (f, s)) :
    Calls Try.prog 20 #[.agg #[.slice mo mn mc, .slice ro rn rc], .agg #[.int .i64 f, .int .i64 s]] w fun e w' => e = .returned (.tuple #[.agg #[.slice none 0 0, .slice none 0 0], .int .i64 1]) ∧ Below w.heap.size w w' := by
  have hb3 : Below w.heap.size w (((w.alloc (.cells #[.slice mo mn mc, .slice ro rn rc] 25)).alloc (.cells #[.int .i64 f, .int .i64 s] 35)).alloc (.cells #[.slice none 0 0, .slice none 0 0] 25)) := (((Below.refl _ _).alloc (Nat.le_refl _) _).alloc (by simp) _).alloc (by simp; omega) _
  have R3 : Res2 (((w.alloc (.cells #[.slice mo mn mc, .slice ro rn rc] 25)).alloc (.cells #[.int .i64 f, .int .i64 s] 35)).alloc (.cells #[.slice none 0 0, .slice none 0 0] 25)) (w.heap.size + 1 + 1) := ⟨⟨_, by go_simp; rfl⟩, ⟨_, by go_simp; rfl⟩, by go_simp, by go_simp⟩
  go_enter Try.func20, Try.ntmps20
  go_wp2_with fail
  go_at_call 28
  refine (chg_range _ mo mn mc M ro rn rc R f s (w.heap.size + 1) 32 (hm.below hb3) (hr.below hb3) (by go_simp) (by go_simp) hM hs h).mono ?_
  rintro e w1 ⟨rfl, hb⟩
  obtain ⟨⟨x0, d0⟩, ⟨x1, d1⟩, z0, z1⟩ := R3.below hb
  have hB := hb3.trans (hb.mono hb3.size)
  go_wp2
  obtain ⟨k0, k1⟩ := res2 d0 d1 (.slice none 0 0) (.slice none 0 0)
  exact bodyPost_ret (v := .tuple #[.agg #[.slice none 0 0, .slice none 0 0], .int .i64 1]) (by simp [results, Try.results20, go_sem, k0, k1]) rfl ⟨rfl, below2 hB (by omega) _ _⟩

/-- What the code's change answers, in the document's words. -/
theorem cRemove_chg (w : World) (mo : Option Addr) (mn mc : Nat) (M : List (Int × Int)) (ro : Option Addr) (rn rc : Nat) (R : List (Int × Int)) (f s rb : Nat) (hm : Regs w mo mn M) (hr : Regs w ro rn R) (q0 : w.cell? ⟨rb, 0, none⟩ = some (.int .i64 f)) (q1 : w.cell? ⟨rb, 1, none⟩ = some (.int .i64 s)) (hM : MayP M ∧ MayP R) (h : regOk ((f : Int), (s : Int))) :
    Calls Try.prog 28 #[.agg #[.slice mo mn mc, .slice ro rn rc], .agg #[.int .i64 f, .int .i64 s], .func (.func 32) #[] #[.pointer (some ⟨rb, 0, none⟩)]] w fun e w' =>
      ((40 < (drawnAll (chH f s false M)).length ∧ e = .returned (.tuple #[.agg #[.slice none 0 0, .slice none 0 0], .int .i64 9])) ∨
      ((drawnAll (chH f s false M)).length ≤ 40 ∧ ∃ m1 n1 c1 r1 n2 c2, e = .returned (.tuple #[.agg #[.slice m1 n1 c1, .slice r1 n2 c2], .int .i64 0]) ∧ Regs w' m1 n1 (drawnAll (chH f s false M)) ∧ Regs w' r1 n2 R ∧ Fresh (w.heap.size + 3) m1 ∧ Fresh (w.heap.size + 3) r1)) ∧ Below w.heap.size w w' := by
  have hfs : f + s ≤ 256 := by have := h.2.2.2.2; dsimp only at this; omega
  refine (chg_ok w mo mn mc M ro rn rc R f s rb 32 false false hm hr q0 q1 hM h cRemove_call (cRemoveF_does w rb f s hfs q0 q1)).mono ?_
  have lM := hM.1.len
  have lR := hM.2.len
  simp only [selH, Bool.false_eq_true, if_false, setH_ch, drawn_inL hM.2]
  rintro e w' ⟨⟨hlt, he⟩ | ⟨h1, h2, rest⟩, hb⟩
  · exact ⟨Or.inl ⟨by omega, he⟩, hb⟩
  · exact ⟨Or.inr ⟨by omega, rest⟩, hb⟩

set_option maxHeartbeats 1000000 in
theorem cRemove_both (w : World) (mo : Option Addr) (mn mc : Nat) (M : List (Int × Int)) (ro : Option Addr) (rn rc : Nat) (R : List (Int × Int)) (f s : Nat) (hm : Regs w mo mn M) (hr : Regs w ro rn R) (hM : MayP M ∧ MayP R) (h : regOk ((f : Int), (s : Int))) :
    Calls Try.prog 20 #[.agg #[.slice mo mn mc, .slice ro rn rc], .agg #[.int .i64 f, .int .i64 s]] w fun e w' =>
      ((40 < (drawnAll (chH f s false M)).length ∧ e = .returned (.tuple #[.agg #[.slice none 0 0, .slice none 0 0], .int .i64 9])) ∨
      ((drawnAll (chH f s false M)).length ≤ 40 ∧ ∃ m1 n1 c1 r1 n2 c2, e = .returned (.tuple #[.agg #[.slice m1 n1 c1, .slice r1 n2 c2], .int .i64 0]) ∧ Regs w' m1 n1 (drawnAll (chH f s false M)) ∧ Regs w' r1 n2 R ∧ Fresh w.heap.size m1 ∧ Fresh w.heap.size r1)) ∧ Below w.heap.size w w' := by
  have hb3 : Below w.heap.size w (((w.alloc (.cells #[.slice mo mn mc, .slice ro rn rc] 25)).alloc (.cells #[.int .i64 f, .int .i64 s] 35)).alloc (.cells #[.slice none 0 0, .slice none 0 0] 25)) := (((Below.refl _ _).alloc (Nat.le_refl _) _).alloc (by simp) _).alloc (by simp; omega) _
  have R3 : Res2 (((w.alloc (.cells #[.slice mo mn mc, .slice ro rn rc] 25)).alloc (.cells #[.int .i64 f, .int .i64 s] 35)).alloc (.cells #[.slice none 0 0, .slice none 0 0] 25)) (w.heap.size + 1 + 1) := ⟨⟨_, by go_simp; rfl⟩, ⟨_, by go_simp; rfl⟩, by go_simp, by go_simp⟩
  have HC := cRemove_chg _ mo mn mc M ro rn rc R f s (w.heap.size + 1) (hm.below hb3) (hr.below hb3) (by go_simp) (by go_simp) hM h
  have hsz : (((w.alloc (.cells #[.slice mo mn mc, .slice ro rn rc] 25)).alloc (.cells #[.int .i64 f, .int .i64 s] 35)).alloc (.cells #[.slice none 0 0, .slice none 0 0] 25)).heap.size = w.heap.size + 3 := by simp
  obtain ⟨D, hD⟩ : ∃ D, (drawnAll (chH f s false M)) = D := ⟨_, rfl⟩
  rw [hD] at HC ⊢
  clear hD
  go_enter Try.func20, Try.ntmps20
  go_wp2_with fail
  go_at_call 28
  refine HC.mono ?_
  rintro e w1 ⟨HE, hb⟩
  obtain ⟨⟨x0, d0⟩, ⟨x1, d1⟩, z0, z1⟩ := R3.below hb
  have hB := hb3.trans (hb.mono hb3.size)
  clear HC
  rcases HE with ⟨hl, rfl⟩ | ⟨hl, m1, n1, c1, r1, n2, c2, rfl, g1, g2, f1, f2⟩
  · have HL : Hid _ := hl
    clear hl
    go_wp2
    obtain ⟨k0, k1⟩ := res2 d0 d1 (.slice none 0 0) (.slice none 0 0)
    exact bodyPost_ret (v := .tuple #[.agg #[.slice none 0 0, .slice none 0 0], .int .i64 9]) (by simp [results, Try.results20, go_sem, k0, k1]) rfl ⟨Or.inl ⟨HL.out, rfl⟩, below2 hB (by omega) _ _⟩
  · have HL : Hid _ := hl
    rw [hsz] at f1 f2
    clear hl
    go_wp2
    obtain ⟨k0, k1⟩ := res2 d0 d1 (.slice m1 n1 c1) (.slice r1 n2 c2)
    exact bodyPost_ret (v := .tuple #[.agg #[.slice m1 n1 c1, .slice r1 n2 c2], .int .i64 0]) (by simp [results, Try.results20, go_sem, k0, k1]) rfl ⟨Or.inr ⟨HL.out, m1, n1, c1, r1, n2, c2, rfl, regs_set2 g1 (fun a ha => by have := f1 a ha; omega) _ _, regs_set2 g2 (fun a ha => by have := f2 a ha; omega) _ _, (fun a ha => by have := f1 a ha; omega), (fun a ha => by have := f2 a ha; omega)⟩, below2 hB (by omega) _ _⟩

theorem cRemove_size (w : World) (mo : Option Addr) (mn mc : Nat) (M : List (Int × Int)) (ro : Option Addr) (rn rc : Nat) (R : List (Int × Int)) (f s : Int) (hm : Regs w mo mn M) (hr : Regs w ro rn R) (hM : MayP M ∧ MayP R) (h : regOk (f, s)) (hl : 40 < (drawnAll (chH f s false M)).length) :
    Calls Try.prog 20 #[.agg #[.slice mo mn mc, .slice ro rn rc], .agg #[.int .i64 f, .int .i64 s]] w fun e w' => e = .returned (.tuple #[.agg #[.slice none 0 0, .slice none 0 0], .int .i64 9]) ∧ Below w.heap.size w w' := by
  obtain ⟨f, s, rfl, rfl, _⟩ := reg_nat h
  refine (cRemove_both w mo mn mc M ro rn rc R f s hm hr hM h).mono ?_
  rintro e w' ⟨⟨_, he⟩ | ⟨h2, _⟩, hb⟩
  · exact ⟨he, hb⟩
  · omega

theorem cRemove_ok (w : World) (mo : Option Addr) (mn mc : Nat) (M : List (Int × Int)) (ro : Option Addr) (rn rc : Nat) (R : List (Int × Int)) (f s : Int) (hm : Regs w mo mn M) (hr : Regs w ro rn R) (hM : MayP M ∧ MayP R) (h : regOk (f, s)) (hl : (drawnAll (chH f s false M)).length ≤ 40) :
    Calls Try.prog 20 #[.agg #[.slice mo mn mc, .slice ro rn rc], .agg #[.int .i64 f, .int .i64 s]] w fun e w' => ∃ m1 n1 c1 r1 n2 c2, e = .returned (.tuple #[.agg #[.slice m1 n1 c1, .slice r1 n2 c2], .int .i64 0]) ∧ Regs w' m1 n1 (drawnAll (chH f s false M)) ∧ Regs w' r1 n2 R ∧ Fresh w.heap.size m1 ∧ Fresh w.heap.size r1 ∧ Below w.heap.size w w' := by
  obtain ⟨f, s, rfl, rfl, _⟩ := reg_nat h
  refine (cRemove_both w mo mn mc M ro rn rc R f s hm hr hM h).mono ?_
  rintro e w' ⟨⟨h1, _⟩ | ⟨_, m1, n1, c1, r1, n2, c2, he, g1, g2, f1, f2⟩, hb⟩
  · omega
  · exact ⟨m1, n1, c1, r1, n2, c2, he, g1, g2, f1, f2, hb⟩

end Go.Proofs.Ytfogdgnlbgoakad
