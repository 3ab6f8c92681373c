/-
  OWN TEXT. Contracts of the document's answer: ChangedOf and its closure.
-/
import Derived.Test.YtfogdgnlbgoakacRefDc
import Derived.Test.YtfogdgnlbgoakacRefM
namespace Go.Proofs.Ytfogdgnlbgoakac
open Go Go.RowKit Go.Proofs.Ytfogdgnlbgoakac.Kit

/-- Which pages are in the list behind a change. -/
def chH (f s : Int) (wth : Bool) (L : List (Int × Int)) (p : Int) : Bool := if inB p f (f + s - 1) = true then wth else inL L p

set_option maxHeartbeats 1000000 in
theorem changedF_any (W : World) (br bw bl : Nat) (f s : Int) (wth : Bool) (lo : Option Addr) (ln lc : Nat) (L : List (Int × Int)) (hok : regOk (f, s)) (hL : MayP L) (hn : L.length = ln) (hx : RegsAt W lo L)
    (r0 : W.cell? ⟨br, 0, none⟩ = some (.int .i64 f)) (r1 : W.cell? ⟨br, 1, none⟩ = some (.int .i64 s)) (w0 : W.cell? ⟨bw, 0, none⟩ = some (.bool wth)) (l0 : W.cell? ⟨bl, 0, none⟩ = some (.slice lo ln lc)) (p : Int) :
    Calls Try.prog 27 (#[.int .i64 p] ++ #[.pointer (some ⟨br, 0, none⟩), .pointer (some ⟨bw, 0, none⟩), .pointer (some ⟨bl, 0, none⟩)]) W fun e W' => e = .returned (.bool (chH f s wth L p)) ∧ ∃ d, W' = W.drewN d := by
  obtain ⟨p1, p2, p3, p4, p5⟩ := hok
  dsimp only at p1 p2 p3 p4 p5
  by_cases h : f ≤ p ∧ p ≤ f + s - 1
  · have e1 : inB p f (f + s - 1) = true := inB_t h
    have HC : Hid (chH f s wth L p = wth) := by show _ = _; unfold chH; rw [if_pos e1]
    clear h hx hL
    go_enter Try.func27, Try.ntmps27
    go_wp2_with (go_at_call 28; refine (in_any _ _ _ _).mono ?_; rintro e w' ⟨rfl, rfl⟩)
    go_ret
    exact ⟨ret_bool HC.out.symm, 0, rfl⟩
  · have e1 : inB p f (f + s - 1) = false := inB_f h
    have HC : Hid (chH f s wth L p = inL L p) := by show _ = _; unfold chH; rw [if_neg (by rw [e1]; simp)]
    have h40 : ln ≤ 40 := by have := hL.len; omega
    have hok := hL.ok
    clear h hL
    go_enter Try.func27, Try.ntmps27
    go_wp2_with fail
    go_at_call 28
    refine (in_any _ _ _ _).mono ?_
    rintro e w' ⟨rfl, rfl⟩
    go_wp2_with fail
    go_at_call 29
    refine (inR_any _ lo ln lc L hn h40 hx hok p).mono ?_
    rintro e w' ⟨rfl, hd⟩
    go_wp2
    go_ret
    exact ⟨ret_bool HC.out.symm, hd⟩

/-- The world in the midst of ChangedOf: its boxed arguments, the result's block, and what can be read. -/
structure ChInv (w : World) (mo : Option Addr) (mn mc : Nat) (M : List (Int × Int)) (ro : Option Addr) (rn rc : Nat) (R : List (Int × Int)) (f s : Int) (wth : Bool) (W : World) : Prop where
  size : w.heap.size + 4 ≤ W.heap.size
  b : Below w.heap.size w W
  c0 : W.cell? ⟨w.heap.size, 0, none⟩ = some (.slice mo mn mc)
  c1 : W.cell? ⟨w.heap.size, 1, none⟩ = some (.slice ro rn rc)
  r0 : W.cell? ⟨w.heap.size + 1, 0, none⟩ = some (.int .i64 f)
  r1 : W.cell? ⟨w.heap.size + 1, 1, none⟩ = some (.int .i64 s)
  w0 : W.cell? ⟨w.heap.size + 1 + 1, 0, none⟩ = some (.bool wth)
  d0 : W.cell? ⟨w.heap.size + 1 + 1 + 1, 0, none⟩ = some (.slice none 0 0)
  d1 : W.cell? ⟨w.heap.size + 1 + 1 + 1, 1, none⟩ = some (.slice none 0 0)
  z0 : W.frozen? ⟨w.heap.size + 1 + 1 + 1, 0, none⟩ = false
  z1 : W.frozen? ⟨w.heap.size + 1 + 1 + 1, 1, none⟩ = false
  m : Regs W mo mn M
  r : Regs W ro rn R

theorem ChInv.step {w : World} {mo : Option Addr} {mn mc : Nat} {M : List (Int × Int)} {ro : Option Addr} {rn rc : Nat} {R : List (Int × Int)} {f s : Int} {wth : Bool} {W W' : World} (h : ChInv w mo mn mc M ro rn rc R f s wth W) (hb : Below W.heap.size W W') : ChInv w mo mn mc M ro rn rc R f s wth W' := by
  have hs := h.size
  have key : ∀ b o, b < w.heap.size + 4 → W'.cell? ⟨b, o, none⟩ = W.cell? ⟨b, o, none⟩ := fun b o hlt => hb.cell (p := ⟨b, o, none⟩) (show b < _ by omega)
  have keyf : ∀ b o, b < w.heap.size + 4 → W'.frozen? ⟨b, o, none⟩ = W.frozen? ⟨b, o, none⟩ := fun b o hlt => hb.frozen (p := ⟨b, o, none⟩) (show b < _ by omega)
  exact ⟨Nat.le_trans h.size hb.size, h.b.trans (hb.mono (by omega)), (key _ _ (by omega)).trans h.c0, (key _ _ (by omega)).trans h.c1, (key _ _ (by omega)).trans h.r0, (key _ _ (by omega)).trans h.r1,
    (key _ _ (by omega)).trans h.w0, (key _ _ (by omega)).trans h.d0, (key _ _ (by omega)).trans h.d1, (keyf _ _ (by omega)).trans h.z0, (keyf _ _ (by omega)).trans h.z1, h.m.below hb, h.r.below hb⟩

/-- The first world of ChangedOf. -/
theorem chInv_first (w : World) (mo : Option Addr) (mn mc : Nat) (M : List (Int × Int)) (ro : Option Addr) (rn rc : Nat) (R : List (Int × Int)) (f s : Int) (wth : Bool) (hm : Regs w mo mn M) (hr : Regs w ro rn R) :
    ChInv w mo mn mc M ro rn rc R f s wth ((((w.alloc (.cells #[.slice mo mn mc, .slice ro rn rc] 24)).alloc (.cells #[.int .i64 f, .int .i64 s] 26)).alloc (.cells #[.bool wth] 4)).alloc (.cells #[.slice none 0 0, .slice none 0 0] 24)) := by
  have hbb : Below w.heap.size w ((((w.alloc (.cells #[.slice mo mn mc, .slice ro rn rc] 24)).alloc (.cells #[.int .i64 f, .int .i64 s] 26)).alloc (.cells #[.bool wth] 4)).alloc (.cells #[.slice none 0 0, .slice none 0 0] 24)) :=
    ((((Below.refl _ _).alloc (Nat.le_refl _) _).alloc (by simp) _).alloc (by simp; omega) _).alloc (by simp; omega) _
  exact ⟨by simp, hbb, by go_simp, by go_simp, by go_simp, by go_simp, by go_simp, by go_simp, by go_simp, by go_simp, by go_simp, hm.below hbb, hr.below hbb⟩

set_option maxHeartbeats 2000000 in
theorem changedOf_state (w : World) (mo : Option Addr) (mn mc : Nat) (M : List (Int × Int)) (ro : Option Addr) (rn rc : Nat) (R : List (Int × Int)) (f s : Int) (res wth : Bool) (hm : Regs w mo mn M) (hr : Regs w ro rn R) (h : ¬ (MayP M ∧ MayP R)) :
    Calls Try.prog 11 #[.agg #[.slice mo mn mc, .slice ro rn rc], .agg #[.int .i64 f, .int .i64 s], .bool res, .bool wth] w fun e w' => e = .returned (.tuple #[.agg #[.slice none 0 0, .slice none 0 0], .int .i64 8]) ∧ Below w.heap.size w w' := by
  have I0 := chInv_first w mo mn mc M ro rn rc R f s wth hm hr
  clear hm hr
  go_enter Try.func11, Try.ntmps11
  go_wp2_with fail
  go_at_call 24
  refine (bootMay_any _ mo mn mc M ro rn rc R I0.m I0.r).mono ?_
  rintro e w1 ⟨⟨b, rfl, hb⟩, hb1⟩
  have I1 := I0.step hb1
  have hbf : b = false := by
    cases b with
    | false => rfl
    | true => exact absurd (hb.1 rfl) h
  subst hbf
  have d0 := I1.d0
  have d1 := I1.d1
  have z0 := I1.z0
  have z1 := I1.z1
  have hB := I1.b
  clear I0 I1 h hb hb1
  go_wp2
  obtain ⟨k0, k1⟩ := res2 d0 d1 (.slice none 0 0) (.slice none 0 0)
  exact bodyPost_ret (v := .tuple #[.agg #[.slice none 0 0, .slice none 0 0], .int .i64 8]) (by simp [results, Try.results11, go_sem, k0, k1]) rfl ⟨rfl, below2 hB (by omega) _ _⟩

set_option maxHeartbeats 2000000 in
theorem changedOf_range (w : World) (mo : Option Addr) (mn mc : Nat) (M : List (Int × Int)) (ro : Option Addr) (rn rc : Nat) (R : List (Int × Int)) (f s : Int) (res wth : Bool) (hm : Regs w mo mn M) (hr : Regs w ro rn R) (hM : MayP M ∧ MayP R) (h : ¬ regOk (f, s)) :
    Calls Try.prog 11 #[.agg #[.slice mo mn mc, .slice ro rn rc], .agg #[.int .i64 f, .int .i64 s], .bool res, .bool wth] w fun e w' => e = .returned (.tuple #[.agg #[.slice none 0 0, .slice none 0 0], .int .i64 1]) ∧ Below w.heap.size w w' := by
  have I0 := chInv_first w mo mn mc M ro rn rc R f s wth hm hr
  clear hm hr
  go_enter Try.func11, Try.ntmps11
  go_wp2_with fail
  go_at_call 24
  refine (bootMay_any _ mo mn mc M ro rn rc R I0.m I0.r).mono ?_
  rintro e w1 ⟨⟨b, rfl, hb⟩, hb1⟩
  have I1 := I0.step hb1
  have hbt : b = true := hb.2 hM
  subst hbt
  have r0 := I1.r0
  have r1 := I1.r1
  clear I0 hb hb1
  go_wp2_with fail
  go_at_call 25
  refine (fault_no _ f s h).mono ?_
  rintro e w2 ⟨rfl, hb2⟩
  have I2 := I1.step hb2
  have d0 := I2.d0
  have d1 := I2.d1
  have z0 := I2.z0
  have z1 := I2.z1
  have hB := I2.b
  clear I1 I2 h hb2 r0 r1 hM
  go_wp2
  obtain ⟨k0, k1⟩ := res2 d0 d1 (.slice none 0 0) (.slice none 0 0)
  exact bodyPost_ret (v := .tuple #[.agg #[.slice none 0 0, .slice none 0 0], .int .i64 1]) (by simp [results, Try.results11, go_sem, k0, k1]) rfl ⟨rfl, below2 hB (by omega) _ _⟩

set_option maxHeartbeats 4000000 in
theorem changedOf_size_false (w : World) (mo : Option Addr) (mn mc : Nat) (M : List (Int × Int)) (ro : Option Addr) (rn rc : Nat) (R : List (Int × Int)) (f s : Int) (wth : Bool) (hm : Regs w mo mn M) (hr : Regs w ro rn R) (hM : MayP M ∧ MayP R) (h : regOk (f, s)) (hlen : 40 < (drawnAll (chH f s wth M)).length) :
    Calls Try.prog 11 #[.agg #[.slice mo mn mc, .slice ro rn rc], .agg #[.int .i64 f, .int .i64 s], .bool false, .bool wth] w fun e w' => e = .returned (.tuple #[.agg #[.slice none 0 0, .slice none 0 0], .int .i64 9]) ∧ Below w.heap.size w w' := by
  have I0 := chInv_first w mo mn mc M ro rn rc R f s wth hm hr
  clear hm hr
  go_enter Try.func11, Try.ntmps11
  go_wp2_with fail
  go_at_call 24
  refine (bootMay_any _ mo mn mc M ro rn rc R I0.m I0.r).mono ?_
  rintro e w1 ⟨⟨b, rfl, hb⟩, hb1⟩
  have I1 := I0.step hb1
  have hbt : b = true := hb.2 hM
  subst hbt
  have r0 := I1.r0
  have r1 := I1.r1
  clear I0 hb hb1
  go_wp2_with fail
  go_at_call 25
  refine (fault_ok _ f s h).mono ?_
  rintro e w2 ⟨rfl, hb2⟩
  have I2 := I1.step hb2
  have c0 := I2.c0
  have c1 := I2.c1
  obtain ⟨D, hD⟩ : ∃ D, D = drawnAll (chH f s wth M) := ⟨_, rfl⟩
  have HD : Hid (D = drawnAll (chH f s wth M)) := hD
  rw [← hD] at hlen
  have hHolds : HoldsAt 27 #[.pointer (some ⟨w.heap.size + 1, 0, none⟩), .pointer (some ⟨w.heap.size + 1 + 1, 0, none⟩), .pointer (some ⟨w2.heap.size, 0, none⟩)] (chH f s wth M) (w2.alloc (.cells #[.slice mo mn mc] 22)) := by
    intro p W _ _ hbW
    have I3 := (I2.step (below_box w2 (.cells #[.slice mo mn mc] 22))).step hbW
    have hl : W.cell? ⟨w2.heap.size, 0, none⟩ = some (.slice mo mn mc) := (hbW.cell (p := ⟨w2.heap.size, 0, none⟩) (by simp)).trans (by simp)
    exact changedF_any W _ _ _ f s wth mo mn mc M h hM.1 I3.m.len I3.m.at_ I3.r0 I3.r1 I3.w0 hl p
  have I3 := I2.step (below_box w2 (.cells #[.slice mo mn mc] 22))
  clear I1 hb2 r0 r1 hD
  go_wp2_with fail
  go_at_call 26
  refine (drawn_changed _ _ _ _ _ hHolds).mono ?_
  rw [← HD.out]
  rintro e w4 ⟨bo, c, rfl, hown, hb4⟩
  have I4 := I3.step hb4
  have hs3 : w.heap.size + 4 ≤ (w2.alloc (.cells #[.slice mo mn mc] 22)).heap.size := I3.size
  have hown' := owns_weaken hown hs3
  clear I2 I3 hHolds hown hb4 c0 c1
  have d0 := I4.d0
  have d1 := I4.d1
  have z0 := I4.z0
  have z1 := I4.z1
  have hB := I4.b
  have hgt : (40 : Int) < D.length := by omega
  clear I4 h hM hown'
  go_wp2
  obtain ⟨k0, k1⟩ := res2 d0 d1 (.slice none 0 0) (.slice none 0 0)
  exact bodyPost_ret (v := .tuple #[.agg #[.slice none 0 0, .slice none 0 0], .int .i64 9]) (by simp [results, Try.results11, go_sem, k0, k1]) rfl ⟨rfl, below2 hB (by omega) _ _⟩

set_option maxHeartbeats 4000000 in
theorem changedOf_ok_false (w : World) (mo : Option Addr) (mn mc : Nat) (M : List (Int × Int)) (ro : Option Addr) (rn rc : Nat) (R : List (Int × Int)) (f s : Int) (wth : Bool) (hm : Regs w mo mn M) (hr : Regs w ro rn R) (hM : MayP M ∧ MayP R) (h : regOk (f, s)) (hlen : (drawnAll (chH f s wth M)).length ≤ 40) :
    Calls Try.prog 11 #[.agg #[.slice mo mn mc, .slice ro rn rc], .agg #[.int .i64 f, .int .i64 s], .bool false, .bool wth] w fun e w' => ∃ m1 n1 c1 r1 n2 c2, e = .returned (.tuple #[.agg #[.slice m1 n1 c1, .slice r1 n2 c2], .int .i64 0]) ∧ Regs w' m1 n1 (drawnAll (chH f s wth M)) ∧ Regs w' r1 n2 R ∧ Fresh (w.heap.size + 4) m1 ∧ Fresh (w.heap.size + 4) r1 ∧ Below w.heap.size w w' := by
  have hmr : MayP M ∧ MayP R := hM
  have hml := hmr.1.len
  have hrl := hmr.2.len
  clear hmr
  have q1 := hm.len
  have q2 := hr.len
  have I0 := chInv_first w mo mn mc M ro rn rc R f s wth hm hr
  clear hm hr
  go_enter Try.func11, Try.ntmps11
  go_wp2_with fail
  go_at_call 24
  refine (bootMay_any _ mo mn mc M ro rn rc R I0.m I0.r).mono ?_
  rintro e w1 ⟨⟨b, rfl, hb⟩, hb1⟩
  have I1 := I0.step hb1
  have hbt : b = true := hb.2 hM
  subst hbt
  have r0 := I1.r0
  have r1 := I1.r1
  clear I0 hb hb1
  go_wp2_with fail
  go_at_call 25
  refine (fault_ok _ f s h).mono ?_
  rintro e w2 ⟨rfl, hb2⟩
  have I2 := I1.step hb2
  have c0 := I2.c0
  have c1 := I2.c1
  obtain ⟨D, hD⟩ : ∃ D, D = drawnAll (chH f s wth M) := ⟨_, rfl⟩
  have HD : Hid (D = drawnAll (chH f s wth M)) := hD
  rw [← hD] at hlen
  have hHolds : HoldsAt 27 #[.pointer (some ⟨w.heap.size + 1, 0, none⟩), .pointer (some ⟨w.heap.size + 1 + 1, 0, none⟩), .pointer (some ⟨w2.heap.size, 0, none⟩)] (chH f s wth M) (w2.alloc (.cells #[.slice mo mn mc] 22)) := by
    intro p W _ _ hbW
    have I3 := (I2.step (below_box w2 (.cells #[.slice mo mn mc] 22))).step hbW
    have hl : W.cell? ⟨w2.heap.size, 0, none⟩ = some (.slice mo mn mc) := (hbW.cell (p := ⟨w2.heap.size, 0, none⟩) (by simp)).trans (by simp)
    exact changedF_any W _ _ _ f s wth mo mn mc M h hM.1 I3.m.len I3.m.at_ I3.r0 I3.r1 I3.w0 hl p
  have I3 := I2.step (below_box w2 (.cells #[.slice mo mn mc] 22))
  clear I1 hb2 r0 r1 hD
  go_wp2_with fail
  go_at_call 26
  refine (drawn_changed _ _ _ _ _ hHolds).mono ?_
  rw [← HD.out]
  rintro e w4 ⟨bo, c, rfl, hown, hb4⟩
  have I4 := I3.step hb4
  have hs3 : w.heap.size + 4 ≤ (w2.alloc (.cells #[.slice mo mn mc] 22)).heap.size := I3.size
  have hown' := owns_weaken hown hs3
  clear I2 I3 hHolds hown hb4 c0 c1
  have c1 := I4.c1
  have hr4 := I4.r
  have hgt : ¬ (40 : Int) < D.length := by omega
  go_wp2_with fail
  go_at_call 30
  refine (regsCopy_any _ ro rn rc R hr4.len hr4.reach hr4.at_).mono ?_
  rintro e w5 ⟨b5, c5, rfl, hown5, hb5⟩
  have I5 := I4.step hb5
  have hD5 := owns_below hown' hb5 (Nat.le_refl _)
  have hM5 := owns_weaken hown5 I4.size
  have d0 := I5.d0
  have d1 := I5.d1
  have z0 := I5.z0
  have z1 := I5.z1
  have hB := I5.b
  have hl := hr4.len
  clear I4 I5 h hM hown' hr4 hown5 hb5
  go_wp2
  obtain ⟨k0, k1⟩ := res2 d0 d1 (.slice bo D.length c) (.slice b5 rn c5)
  have O1 := owns_set2 hM5 (b := w.heap.size + 1 + 1 + 1) (by omega) (.slice bo D.length c) (.slice b5 rn c5)
  have O2 := owns_set2 hD5 (b := w.heap.size + 1 + 1 + 1) (by omega) (.slice bo D.length c) (.slice b5 rn c5)
  refine bodyPost_ret (v := .tuple #[.agg #[.slice bo D.length c, .slice b5 rn c5], .int .i64 0]) (by simp [results, Try.results11, go_sem, k0, k1]) rfl ⟨bo, D.length, c, b5, rn, c5, rfl, ?_, ?_, owns_fresh hD5, owns_fresh hM5, below2 hB (by omega) _ _⟩
  · rw [← HD.out]; exact ⟨rfl, by omega, regs_of_owns O2⟩
  · exact ⟨hl, by omega, regs_of_owns O1⟩

set_option maxHeartbeats 4000000 in
theorem changedOf_size_true (w : World) (mo : Option Addr) (mn mc : Nat) (M : List (Int × Int)) (ro : Option Addr) (rn rc : Nat) (R : List (Int × Int)) (f s : Int) (wth : Bool) (hm : Regs w mo mn M) (hr : Regs w ro rn R) (hM : MayP M ∧ MayP R) (h : regOk (f, s)) (hlen : 40 < (drawnAll (chH f s wth R)).length) :
    Calls Try.prog 11 #[.agg #[.slice mo mn mc, .slice ro rn rc], .agg #[.int .i64 f, .int .i64 s], .bool true, .bool wth] w fun e w' => e = .returned (.tuple #[.agg #[.slice none 0 0, .slice none 0 0], .int .i64 9]) ∧ Below w.heap.size w w' := by
  have I0 := chInv_first w mo mn mc M ro rn rc R f s wth hm hr
  clear hm hr
  go_enter Try.func11, Try.ntmps11
  go_wp2_with fail
  go_at_call 24
  refine (bootMay_any _ mo mn mc M ro rn rc R I0.m I0.r).mono ?_
  rintro e w1 ⟨⟨b, rfl, hb⟩, hb1⟩
  have I1 := I0.step hb1
  have hbt : b = true := hb.2 hM
  subst hbt
  have r0 := I1.r0
  have r1 := I1.r1
  clear I0 hb hb1
  go_wp2_with fail
  go_at_call 25
  refine (fault_ok _ f s h).mono ?_
  rintro e w2 ⟨rfl, hb2⟩
  have I2 := I1.step hb2
  have c0 := I2.c0
  have c1 := I2.c1
  obtain ⟨D, hD⟩ : ∃ D, D = drawnAll (chH f s wth R) := ⟨_, rfl⟩
  have HD : Hid (D = drawnAll (chH f s wth R)) := hD
  rw [← hD] at hlen
  have hHolds : HoldsAt 27 #[.pointer (some ⟨w.heap.size + 1, 0, none⟩), .pointer (some ⟨w.heap.size + 1 + 1, 0, none⟩), .pointer (some ⟨w2.heap.size, 0, none⟩)] (chH f s wth R) (w2.alloc (.cells #[.slice ro rn rc] 22)) := by
    intro p W _ _ hbW
    have I3 := (I2.step (below_box w2 (.cells #[.slice ro rn rc] 22))).step hbW
    have hl : W.cell? ⟨w2.heap.size, 0, none⟩ = some (.slice ro rn rc) := (hbW.cell (p := ⟨w2.heap.size, 0, none⟩) (by simp)).trans (by simp)
    exact changedF_any W _ _ _ f s wth ro rn rc R h hM.2 I3.r.len I3.r.at_ I3.r0 I3.r1 I3.w0 hl p
  have I3 := I2.step (below_box w2 (.cells #[.slice ro rn rc] 22))
  have c1' : (w2.alloc (.cells #[.slice mo mn mc] 22)).cell? ⟨w.heap.size, 1, none⟩ = some (.slice ro rn rc) := (I2.step (below_box w2 (.cells #[.slice mo mn mc] 22))).c1
  clear I1 hb2 r0 r1 hD
  go_wp2_with fail
  go_at_call 26
  refine (drawn_changed _ _ _ _ _ hHolds).mono ?_
  rw [← HD.out]
  rintro e w4 ⟨bo, c, rfl, hown, hb4⟩
  have I4 := I3.step hb4
  have hs3 : w.heap.size + 4 ≤ (w2.alloc (.cells #[.slice ro rn rc] 22)).heap.size := I3.size
  have hown' := owns_weaken hown hs3
  clear I2 I3 hHolds hown hb4 c0 c1
  have d0 := I4.d0
  have d1 := I4.d1
  have z0 := I4.z0
  have z1 := I4.z1
  have hB := I4.b
  have hgt : (40 : Int) < D.length := by omega
  clear I4 h hM hown'
  go_wp2
  obtain ⟨k0, k1⟩ := res2 d0 d1 (.slice none 0 0) (.slice none 0 0)
  exact bodyPost_ret (v := .tuple #[.agg #[.slice none 0 0, .slice none 0 0], .int .i64 9]) (by simp [results, Try.results11, go_sem, k0, k1]) rfl ⟨rfl, below2 hB (by omega) _ _⟩

set_option maxHeartbeats 4000000 in
theorem changedOf_ok_true (w : World) (mo : Option Addr) (mn mc : Nat) (M : List (Int × Int)) (ro : Option Addr) (rn rc : Nat) (R : List (Int × Int)) (f s : Int) (wth : Bool) (hm : Regs w mo mn M) (hr : Regs w ro rn R) (hM : MayP M ∧ MayP R) (h : regOk (f, s)) (hlen : (drawnAll (chH f s wth R)).length ≤ 40) :
    Calls Try.prog 11 #[.agg #[.slice mo mn mc, .slice ro rn rc], .agg #[.int .i64 f, .int .i64 s], .bool true, .bool wth] w fun e w' => ∃ m1 n1 c1 r1 n2 c2, e = .returned (.tuple #[.agg #[.slice m1 n1 c1, .slice r1 n2 c2], .int .i64 0]) ∧ Regs w' m1 n1 M ∧ Regs w' r1 n2 (drawnAll (chH f s wth R)) ∧ Fresh (w.heap.size + 4) m1 ∧ Fresh (w.heap.size + 4) r1 ∧ Below w.heap.size w w' := by
  have hmr : MayP M ∧ MayP R := hM
  have hml := hmr.1.len
  have hrl := hmr.2.len
  clear hmr
  have q1 := hm.len
  have q2 := hr.len
  have I0 := chInv_first w mo mn mc M ro rn rc R f s wth hm hr
  clear hm hr
  go_enter Try.func11, Try.ntmps11
  go_wp2_with fail
  go_at_call 24
  refine (bootMay_any _ mo mn mc M ro rn rc R I0.m I0.r).mono ?_
  rintro e w1 ⟨⟨b, rfl, hb⟩, hb1⟩
  have I1 := I0.step hb1
  have hbt : b = true := hb.2 hM
  subst hbt
  have r0 := I1.r0
  have r1 := I1.r1
  clear I0 hb hb1
  go_wp2_with fail
  go_at_call 25
  refine (fault_ok _ f s h).mono ?_
  rintro e w2 ⟨rfl, hb2⟩
  have I2 := I1.step hb2
  have c0 := I2.c0
  have c1 := I2.c1
  obtain ⟨D, hD⟩ : ∃ D, D = drawnAll (chH f s wth R) := ⟨_, rfl⟩
  have HD : Hid (D = drawnAll (chH f s wth R)) := hD
  rw [← hD] at hlen
  have hHolds : HoldsAt 27 #[.pointer (some ⟨w.heap.size + 1, 0, none⟩), .pointer (some ⟨w.heap.size + 1 + 1, 0, none⟩), .pointer (some ⟨w2.heap.size, 0, none⟩)] (chH f s wth R) (w2.alloc (.cells #[.slice ro rn rc] 22)) := by
    intro p W _ _ hbW
    have I3 := (I2.step (below_box w2 (.cells #[.slice ro rn rc] 22))).step hbW
    have hl : W.cell? ⟨w2.heap.size, 0, none⟩ = some (.slice ro rn rc) := (hbW.cell (p := ⟨w2.heap.size, 0, none⟩) (by simp)).trans (by simp)
    exact changedF_any W _ _ _ f s wth ro rn rc R h hM.2 I3.r.len I3.r.at_ I3.r0 I3.r1 I3.w0 hl p
  have I3 := I2.step (below_box w2 (.cells #[.slice ro rn rc] 22))
  have c1' : (w2.alloc (.cells #[.slice mo mn mc] 22)).cell? ⟨w.heap.size, 1, none⟩ = some (.slice ro rn rc) := (I2.step (below_box w2 (.cells #[.slice mo mn mc] 22))).c1
  clear I1 hb2 r0 r1 hD
  go_wp2_with fail
  go_at_call 26
  refine (drawn_changed _ _ _ _ _ hHolds).mono ?_
  rw [← HD.out]
  rintro e w4 ⟨bo, c, rfl, hown, hb4⟩
  have I4 := I3.step hb4
  have hs3 : w.heap.size + 4 ≤ (w2.alloc (.cells #[.slice ro rn rc] 22)).heap.size := I3.size
  have hown' := owns_weaken hown hs3
  clear I2 I3 hHolds hown hb4 c0 c1
  have c0 := I4.c0
  have hm4 := I4.m
  have hgt : ¬ (40 : Int) < D.length := by omega
  go_wp2_with fail
  go_at_call 30
  refine (regsCopy_any _ mo mn mc M hm4.len hm4.reach hm4.at_).mono ?_
  rintro e w5 ⟨b5, c5, rfl, hown5, hb5⟩
  have I5 := I4.step hb5
  have hD5 := owns_below hown' hb5 (Nat.le_refl _)
  have hM5 := owns_weaken hown5 I4.size
  have d0 := I5.d0
  have d1 := I5.d1
  have z0 := I5.z0
  have z1 := I5.z1
  have hB := I5.b
  have hl := hm4.len
  clear I4 I5 h hM hown' hm4 hown5 hb5
  go_wp2
  obtain ⟨k0, k1⟩ := res2 d0 d1 (.slice b5 mn c5) (.slice bo D.length c)
  have O1 := owns_set2 hM5 (b := w.heap.size + 1 + 1 + 1) (by omega) (.slice b5 mn c5) (.slice bo D.length c)
  have O2 := owns_set2 hD5 (b := w.heap.size + 1 + 1 + 1) (by omega) (.slice b5 mn c5) (.slice bo D.length c)
  refine bodyPost_ret (v := .tuple #[.agg #[.slice b5 mn c5, .slice bo D.length c], .int .i64 0]) (by simp [results, Try.results11, go_sem, k0, k1]) rfl ⟨b5, mn, c5, bo, D.length, c, rfl, ?_, ?_, owns_fresh hM5, owns_fresh hD5, below2 hB (by omega) _ _⟩
  · exact ⟨hl, by omega, regs_of_owns O1⟩
  · rw [← HD.out]; exact ⟨rfl, by omega, regs_of_owns O2⟩

end Go.Proofs.Ytfogdgnlbgoakac
