/-
  OWN TEXT. The walk of the law BootFrees: it returns true and writes nothing that was there.
-/
import Derived.Test.YtfogdgnlbgoakacBcFree
import Derived.Test.YtfogdgnlbgoakacRefC2
import Derived.Test.YtfogdgnlbgoakacSameB
namespace Go.Proofs.Ytfogdgnlbgoakac
open Go Go.RowKit Go.Proofs.Ytfogdgnlbgoakac.Kit

set_option maxHeartbeats 4000000 in
theorem bootFrees_state (mo : Option Addr) (mn mc : Nat) (M : List (Int × Int)) (ro : Option Addr) (rn rc : Nat) (R : List (Int × Int)) (f s : Int) (w : World) (hm : IsRegs w mo mn mc M) (hr : IsRegs w ro rn rc R) (h : ¬ (MayP M ∧ MayP R)) :
    Calls Try.prog 6 #[.agg #[.slice mo mn mc, .slice ro rn rc], .agg #[.int .i64 f, .int .i64 s]] w fun e w' => e = .returned (.bool true) ∧ Below w.heap.size w w' := by
  have hb2 : Below w.heap.size w ((w.alloc (.cells #[.slice mo mn mc, .slice ro rn rc] 24)).alloc (.cells #[.int .i64 f, .int .i64 s] 26)) := ((Below.refl _ _).alloc (Nat.le_refl _) _).alloc (by simp) _
  have tM := hm.top
  have tR := hr.top
  have hmI := hm.below hb2
  have hrI := hr.below hb2
  have p0 : ((w.alloc (.cells #[.slice mo mn mc, .slice ro rn rc] 24)).alloc (.cells #[.int .i64 f, .int .i64 s] 26)).cell? ⟨w.heap.size, 0, none⟩ = some (.slice mo mn mc) := by go_simp
  have p1 : ((w.alloc (.cells #[.slice mo mn mc, .slice ro rn rc] 24)).alloc (.cells #[.int .i64 f, .int .i64 s] 26)).cell? ⟨w.heap.size, 1, none⟩ = some (.slice ro rn rc) := by go_simp
  have q0 : ((w.alloc (.cells #[.slice mo mn mc, .slice ro rn rc] 24)).alloc (.cells #[.int .i64 f, .int .i64 s] 26)).cell? ⟨w.heap.size + 1, 0, none⟩ = some (.int .i64 f) := by go_simp
  have q1 : ((w.alloc (.cells #[.slice mo mn mc, .slice ro rn rc] 24)).alloc (.cells #[.int .i64 f, .int .i64 s] 26)).cell? ⟨w.heap.size + 1, 1, none⟩ = some (.int .i64 s) := by go_simp
  go_enter Try.func6, Try.ntmps6
  go_wp2_with fail
  go_at_call 9
  refine (boots_any _ mo mn mc M ro rn rc R hmI hrI).mono ?_
  rintro e w1 ⟨km, kc, kr, kd, rfl, kM, kR, hb1⟩
  have hmw := hmI.regs.below hb1
  have hrw := hrI.regs.below hb1
  have hB1 := hb2.trans (hb1.mono hb2.size)
  replace p0 := keep p0 hb1
  replace p1 := keep p1 hb1
  replace q0 := keep q0 hb1
  replace q1 := keep q1 hb1
  have hbk := below_box w1 (.cells #[.slice km mn kc, .slice kr rn kd] 24)
  have k0 : (w1.alloc (.cells #[.slice km mn kc, .slice kr rn kd] 24)).cell? ⟨w1.heap.size, 0, none⟩ = some (.slice km mn kc) := by go_simp
  have k1 : (w1.alloc (.cells #[.slice km mn kc, .slice kr rn kd] 24)).cell? ⟨w1.heap.size, 1, none⟩ = some (.slice kr rn kd) := by go_simp
  replace kM := kM.below hbk
  replace kR := kR.below hbk
  replace hmw := hmw.below hbk
  replace hrw := hrw.below hbk
  replace p0 := keep p0 hbk
  replace p1 := keep p1 hbk
  replace q0 := keep q0 hbk
  replace q1 := keep q1 hbk
  have hB2 := hB1.trans (hbk.mono hB1.size)
  clear hm hr hmI hrI hb1 hb2 hB1 hbk
  go_wp2_with fail
  go_at_call 15
  refine (cFree_state _ km mn kc M kr rn kd R f s kM kR tM tR h).mono ?_
  rintro e w3 ⟨rfl, hb3⟩
  replace hmw := hmw.below hb3
  replace hrw := hrw.below hb3
  replace kM := kM.below hb3
  replace kR := kR.below hb3
  replace p0 := keep p0 hb3
  replace p1 := keep p1 hb3
  replace q0 := keep q0 hb3
  replace q1 := keep q1 hb3
  replace k0 := keep k0 hb3
  replace k1 := keep k1 hb3
  have hB3 := hB2.trans (hb3.mono hB2.size)
  have hbx := below_box w3 (.cells #[.slice none 0 0, .slice none 0 0] 24)
  have x0 : (w3.alloc (.cells #[.slice none 0 0, .slice none 0 0] 24)).cell? ⟨w3.heap.size, 0, none⟩ = some (.slice none 0 0) := by go_simp
  have x1 : (w3.alloc (.cells #[.slice none 0 0, .slice none 0 0] 24)).cell? ⟨w3.heap.size, 1, none⟩ = some (.slice none 0 0) := by go_simp
  replace hmw := hmw.below hbx
  replace hrw := hrw.below hbx
  replace kM := kM.below hbx
  replace kR := kR.below hbx
  replace p0 := keep p0 hbx
  replace p1 := keep p1 hbx
  replace q0 := keep q0 hbx
  replace q1 := keep q1 hbx
  replace k0 := keep k0 hbx
  replace k1 := keep k1 hbx
  have hB4 := hB3.trans (hbx.mono hB3.size)
  clear hb3 hB2 hB3 hbx
  go_wp2_with fail
  go_at_call 11
  refine (changedOf_state _ mo mn mc M ro rn rc R f s true false hmw hrw h).mono ?_
  rintro e w5 ⟨rfl, hb5⟩
  replace hmw := hmw.below hb5
  replace hrw := hrw.below hb5
  replace kM := kM.below hb5
  replace kR := kR.below hb5
  replace p0 := keep p0 hb5
  replace p1 := keep p1 hb5
  replace k0 := keep k0 hb5
  replace k1 := keep k1 hb5
  replace x0 := keep x0 hb5
  replace x1 := keep x1 hb5
  have hB5 := hB4.trans (hb5.mono hB4.size)
  have hby := below_box w5 (.cells #[.slice none 0 0, .slice none 0 0] 24)
  have y0 : (w5.alloc (.cells #[.slice none 0 0, .slice none 0 0] 24)).cell? ⟨w5.heap.size, 0, none⟩ = some (.slice none 0 0) := by go_simp
  have y1 : (w5.alloc (.cells #[.slice none 0 0, .slice none 0 0] 24)).cell? ⟨w5.heap.size, 1, none⟩ = some (.slice none 0 0) := by go_simp
  replace hmw := hmw.below hby
  replace hrw := hrw.below hby
  replace kM := kM.below hby
  replace kR := kR.below hby
  replace p0 := keep p0 hby
  replace p1 := keep p1 hby
  replace k0 := keep k0 hby
  replace k1 := keep k1 hby
  replace x0 := keep x0 hby
  replace x1 := keep x1 hby
  have hB6 := hB5.trans (hby.mono hB5.size)
  clear hb5 hB4 hB5 hby q0 q1
  go_wp2_with fail
  go_at_call 12
  refine (sameBoot_eq _ none none none none 0 0 0 0 0 0 [] [] (⟨rfl, by omega, RegsAt.nil _ _⟩ : Regs _ none 0 []) (⟨rfl, by omega, RegsAt.nil _ _⟩ : Regs _ none 0 []) (⟨rfl, by omega, RegsAt.nil _ _⟩ : Regs _ none 0 []) (⟨rfl, by omega, RegsAt.nil _ _⟩ : Regs _ none 0 [])).mono ?_
  rintro e w7 ⟨rfl, hb7⟩
  replace hmw := hmw.below hb7
  replace hrw := hrw.below hb7
  replace kM := kM.below hb7
  replace kR := kR.below hb7
  replace p0 := keep p0 hb7
  replace p1 := keep p1 hb7
  replace k0 := keep k0 hb7
  replace k1 := keep k1 hb7
  have hB7 := hB6.trans (hb7.mono hB6.size)
  clear x0 x1 y0 y1 hb7 hB6
  go_wp2_with fail
  go_at_call 12
  refine (sameBoot_eq _ km mo kr ro mn kc mc rn kd rc M R kM hmw kR hrw).mono ?_
  rintro e w8 ⟨rfl, hb8⟩
  go_wp2
  go_ret
  exact ⟨rfl, hB7.trans (hb8.mono hB7.size)⟩

set_option maxHeartbeats 4000000 in
theorem bootFrees_range (mo : Option Addr) (mn mc : Nat) (M : List (Int × Int)) (ro : Option Addr) (rn rc : Nat) (R : List (Int × Int)) (f s : Int) (w : World) (hm : IsRegs w mo mn mc M) (hr : IsRegs w ro rn rc R) (hs : s ≤ 9223372036854775807) (hM : MayP M ∧ MayP R) (h : ¬ regOk (f, s)) :
    Calls Try.prog 6 #[.agg #[.slice mo mn mc, .slice ro rn rc], .agg #[.int .i64 f, .int .i64 s]] w fun e w' => e = .returned (.bool true) ∧ Below w.heap.size w w' := by
  have hb2 : Below w.heap.size w ((w.alloc (.cells #[.slice mo mn mc, .slice ro rn rc] 24)).alloc (.cells #[.int .i64 f, .int .i64 s] 26)) := ((Below.refl _ _).alloc (Nat.le_refl _) _).alloc (by simp) _
  have tM := hm.top
  have tR := hr.top
  have hmI := hm.below hb2
  have hrI := hr.below hb2
  have p0 : ((w.alloc (.cells #[.slice mo mn mc, .slice ro rn rc] 24)).alloc (.cells #[.int .i64 f, .int .i64 s] 26)).cell? ⟨w.heap.size, 0, none⟩ = some (.slice mo mn mc) := by go_simp
  have p1 : ((w.alloc (.cells #[.slice mo mn mc, .slice ro rn rc] 24)).alloc (.cells #[.int .i64 f, .int .i64 s] 26)).cell? ⟨w.heap.size, 1, none⟩ = some (.slice ro rn rc) := by go_simp
  have q0 : ((w.alloc (.cells #[.slice mo mn mc, .slice ro rn rc] 24)).alloc (.cells #[.int .i64 f, .int .i64 s] 26)).cell? ⟨w.heap.size + 1, 0, none⟩ = some (.int .i64 f) := by go_simp
  have q1 : ((w.alloc (.cells #[.slice mo mn mc, .slice ro rn rc] 24)).alloc (.cells #[.int .i64 f, .int .i64 s] 26)).cell? ⟨w.heap.size + 1, 1, none⟩ = some (.int .i64 s) := by go_simp
  go_enter Try.func6, Try.ntmps6
  go_wp2_with fail
  go_at_call 9
  refine (boots_any _ mo mn mc M ro rn rc R hmI hrI).mono ?_
  rintro e w1 ⟨km, kc, kr, kd, rfl, kM, kR, hb1⟩
  have hmw := hmI.regs.below hb1
  have hrw := hrI.regs.below hb1
  have hB1 := hb2.trans (hb1.mono hb2.size)
  replace p0 := keep p0 hb1
  replace p1 := keep p1 hb1
  replace q0 := keep q0 hb1
  replace q1 := keep q1 hb1
  have hbk := below_box w1 (.cells #[.slice km mn kc, .slice kr rn kd] 24)
  have k0 : (w1.alloc (.cells #[.slice km mn kc, .slice kr rn kd] 24)).cell? ⟨w1.heap.size, 0, none⟩ = some (.slice km mn kc) := by go_simp
  have k1 : (w1.alloc (.cells #[.slice km mn kc, .slice kr rn kd] 24)).cell? ⟨w1.heap.size, 1, none⟩ = some (.slice kr rn kd) := by go_simp
  replace kM := kM.below hbk
  replace kR := kR.below hbk
  replace hmw := hmw.below hbk
  replace hrw := hrw.below hbk
  replace p0 := keep p0 hbk
  replace p1 := keep p1 hbk
  replace q0 := keep q0 hbk
  replace q1 := keep q1 hbk
  have hB2 := hB1.trans (hbk.mono hB1.size)
  clear hm hr hmI hrI hb1 hb2 hB1 hbk
  go_wp2_with fail
  go_at_call 15
  refine (cFree_range _ km mn kc M kr rn kd R f s kM kR hM hs h).mono ?_
  rintro e w3 ⟨rfl, hb3⟩
  replace hmw := hmw.below hb3
  replace hrw := hrw.below hb3
  replace kM := kM.below hb3
  replace kR := kR.below hb3
  replace p0 := keep p0 hb3
  replace p1 := keep p1 hb3
  replace q0 := keep q0 hb3
  replace q1 := keep q1 hb3
  replace k0 := keep k0 hb3
  replace k1 := keep k1 hb3
  have hB3 := hB2.trans (hb3.mono hB2.size)
  have hbx := below_box w3 (.cells #[.slice none 0 0, .slice none 0 0] 24)
  have x0 : (w3.alloc (.cells #[.slice none 0 0, .slice none 0 0] 24)).cell? ⟨w3.heap.size, 0, none⟩ = some (.slice none 0 0) := by go_simp
  have x1 : (w3.alloc (.cells #[.slice none 0 0, .slice none 0 0] 24)).cell? ⟨w3.heap.size, 1, none⟩ = some (.slice none 0 0) := by go_simp
  replace hmw := hmw.below hbx
  replace hrw := hrw.below hbx
  replace kM := kM.below hbx
  replace kR := kR.below hbx
  replace p0 := keep p0 hbx
  replace p1 := keep p1 hbx
  replace q0 := keep q0 hbx
  replace q1 := keep q1 hbx
  replace k0 := keep k0 hbx
  replace k1 := keep k1 hbx
  have hB4 := hB3.trans (hbx.mono hB3.size)
  clear hb3 hB2 hB3 hbx
  go_wp2_with fail
  go_at_call 11
  refine (changedOf_range _ mo mn mc M ro rn rc R f s true false hmw hrw hM h).mono ?_
  rintro e w5 ⟨rfl, hb5⟩
  replace hmw := hmw.below hb5
  replace hrw := hrw.below hb5
  replace kM := kM.below hb5
  replace kR := kR.below hb5
  replace p0 := keep p0 hb5
  replace p1 := keep p1 hb5
  replace k0 := keep k0 hb5
  replace k1 := keep k1 hb5
  replace x0 := keep x0 hb5
  replace x1 := keep x1 hb5
  have hB5 := hB4.trans (hb5.mono hB4.size)
  have hby := below_box w5 (.cells #[.slice none 0 0, .slice none 0 0] 24)
  have y0 : (w5.alloc (.cells #[.slice none 0 0, .slice none 0 0] 24)).cell? ⟨w5.heap.size, 0, none⟩ = some (.slice none 0 0) := by go_simp
  have y1 : (w5.alloc (.cells #[.slice none 0 0, .slice none 0 0] 24)).cell? ⟨w5.heap.size, 1, none⟩ = some (.slice none 0 0) := by go_simp
  replace hmw := hmw.below hby
  replace hrw := hrw.below hby
  replace kM := kM.below hby
  replace kR := kR.below hby
  replace p0 := keep p0 hby
  replace p1 := keep p1 hby
  replace k0 := keep k0 hby
  replace k1 := keep k1 hby
  replace x0 := keep x0 hby
  replace x1 := keep x1 hby
  have hB6 := hB5.trans (hby.mono hB5.size)
  clear hb5 hB4 hB5 hby q0 q1
  go_wp2_with fail
  go_at_call 12
  refine (sameBoot_eq _ none none none none 0 0 0 0 0 0 [] [] (⟨rfl, by omega, RegsAt.nil _ _⟩ : Regs _ none 0 []) (⟨rfl, by omega, RegsAt.nil _ _⟩ : Regs _ none 0 []) (⟨rfl, by omega, RegsAt.nil _ _⟩ : Regs _ none 0 []) (⟨rfl, by omega, RegsAt.nil _ _⟩ : Regs _ none 0 [])).mono ?_
  rintro e w7 ⟨rfl, hb7⟩
  replace hmw := hmw.below hb7
  replace hrw := hrw.below hb7
  replace kM := kM.below hb7
  replace kR := kR.below hb7
  replace p0 := keep p0 hb7
  replace p1 := keep p1 hb7
  replace k0 := keep k0 hb7
  replace k1 := keep k1 hb7
  have hB7 := hB6.trans (hb7.mono hB6.size)
  clear x0 x1 y0 y1 hb7 hB6
  go_wp2_with fail
  go_at_call 12
  refine (sameBoot_eq _ km mo kr ro mn kc mc rn kd rc M R kM hmw kR hrw).mono ?_
  rintro e w8 ⟨rfl, hb8⟩
  go_wp2
  go_ret
  exact ⟨rfl, hB7.trans (hb8.mono hB7.size)⟩

set_option maxHeartbeats 4000000 in
theorem bootFrees_size (mo : Option Addr) (mn mc : Nat) (M : List (Int × Int)) (ro : Option Addr) (rn rc : Nat) (R : List (Int × Int)) (f s : Int) (w : World) (hm : IsRegs w mo mn mc M) (hr : IsRegs w ro rn rc R) (hM : MayP M ∧ MayP R) (h : regOk (f, s)) (hl : 40 < (drawnAll (chH f s false R)).length) :
    Calls Try.prog 6 #[.agg #[.slice mo mn mc, .slice ro rn rc], .agg #[.int .i64 f, .int .i64 s]] w fun e w' => e = .returned (.bool true) ∧ Below w.heap.size w w' := by
  have hb2 : Below w.heap.size w ((w.alloc (.cells #[.slice mo mn mc, .slice ro rn rc] 24)).alloc (.cells #[.int .i64 f, .int .i64 s] 26)) := ((Below.refl _ _).alloc (Nat.le_refl _) _).alloc (by simp) _
  have tM := hm.top
  have tR := hr.top
  have hmI := hm.below hb2
  have hrI := hr.below hb2
  have p0 : ((w.alloc (.cells #[.slice mo mn mc, .slice ro rn rc] 24)).alloc (.cells #[.int .i64 f, .int .i64 s] 26)).cell? ⟨w.heap.size, 0, none⟩ = some (.slice mo mn mc) := by go_simp
  have p1 : ((w.alloc (.cells #[.slice mo mn mc, .slice ro rn rc] 24)).alloc (.cells #[.int .i64 f, .int .i64 s] 26)).cell? ⟨w.heap.size, 1, none⟩ = some (.slice ro rn rc) := by go_simp
  have q0 : ((w.alloc (.cells #[.slice mo mn mc, .slice ro rn rc] 24)).alloc (.cells #[.int .i64 f, .int .i64 s] 26)).cell? ⟨w.heap.size + 1, 0, none⟩ = some (.int .i64 f) := by go_simp
  have q1 : ((w.alloc (.cells #[.slice mo mn mc, .slice ro rn rc] 24)).alloc (.cells #[.int .i64 f, .int .i64 s] 26)).cell? ⟨w.heap.size + 1, 1, none⟩ = some (.int .i64 s) := by go_simp
  go_enter Try.func6, Try.ntmps6
  go_wp2_with fail
  go_at_call 9
  refine (boots_any _ mo mn mc M ro rn rc R hmI hrI).mono ?_
  rintro e w1 ⟨km, kc, kr, kd, rfl, kM, kR, hb1⟩
  have hmw := hmI.regs.below hb1
  have hrw := hrI.regs.below hb1
  have hB1 := hb2.trans (hb1.mono hb2.size)
  replace p0 := keep p0 hb1
  replace p1 := keep p1 hb1
  replace q0 := keep q0 hb1
  replace q1 := keep q1 hb1
  have hbk := below_box w1 (.cells #[.slice km mn kc, .slice kr rn kd] 24)
  have k0 : (w1.alloc (.cells #[.slice km mn kc, .slice kr rn kd] 24)).cell? ⟨w1.heap.size, 0, none⟩ = some (.slice km mn kc) := by go_simp
  have k1 : (w1.alloc (.cells #[.slice km mn kc, .slice kr rn kd] 24)).cell? ⟨w1.heap.size, 1, none⟩ = some (.slice kr rn kd) := by go_simp
  replace kM := kM.below hbk
  replace kR := kR.below hbk
  replace hmw := hmw.below hbk
  replace hrw := hrw.below hbk
  replace p0 := keep p0 hbk
  replace p1 := keep p1 hbk
  replace q0 := keep q0 hbk
  replace q1 := keep q1 hbk
  have hB2 := hB1.trans (hbk.mono hB1.size)
  clear hm hr hmI hrI hb1 hb2 hB1 hbk
  go_wp2_with fail
  go_at_call 15
  refine (cFree_size _ km mn kc M kr rn kd R f s kM kR hM h hl).mono ?_
  rintro e w3 ⟨rfl, hb3⟩
  replace hmw := hmw.below hb3
  replace hrw := hrw.below hb3
  replace kM := kM.below hb3
  replace kR := kR.below hb3
  replace p0 := keep p0 hb3
  replace p1 := keep p1 hb3
  replace q0 := keep q0 hb3
  replace q1 := keep q1 hb3
  replace k0 := keep k0 hb3
  replace k1 := keep k1 hb3
  have hB3 := hB2.trans (hb3.mono hB2.size)
  have hbx := below_box w3 (.cells #[.slice none 0 0, .slice none 0 0] 24)
  have x0 : (w3.alloc (.cells #[.slice none 0 0, .slice none 0 0] 24)).cell? ⟨w3.heap.size, 0, none⟩ = some (.slice none 0 0) := by go_simp
  have x1 : (w3.alloc (.cells #[.slice none 0 0, .slice none 0 0] 24)).cell? ⟨w3.heap.size, 1, none⟩ = some (.slice none 0 0) := by go_simp
  replace hmw := hmw.below hbx
  replace hrw := hrw.below hbx
  replace kM := kM.below hbx
  replace kR := kR.below hbx
  replace p0 := keep p0 hbx
  replace p1 := keep p1 hbx
  replace q0 := keep q0 hbx
  replace q1 := keep q1 hbx
  replace k0 := keep k0 hbx
  replace k1 := keep k1 hbx
  have hB4 := hB3.trans (hbx.mono hB3.size)
  clear hb3 hB2 hB3 hbx
  go_wp2_with fail
  go_at_call 11
  refine (changedOf_size_true _ mo mn mc M ro rn rc R f s false hmw hrw hM h hl).mono ?_
  rintro e w5 ⟨rfl, hb5⟩
  replace hmw := hmw.below hb5
  replace hrw := hrw.below hb5
  replace kM := kM.below hb5
  replace kR := kR.below hb5
  replace p0 := keep p0 hb5
  replace p1 := keep p1 hb5
  replace k0 := keep k0 hb5
  replace k1 := keep k1 hb5
  replace x0 := keep x0 hb5
  replace x1 := keep x1 hb5
  have hB5 := hB4.trans (hb5.mono hB4.size)
  have hby := below_box w5 (.cells #[.slice none 0 0, .slice none 0 0] 24)
  have y0 : (w5.alloc (.cells #[.slice none 0 0, .slice none 0 0] 24)).cell? ⟨w5.heap.size, 0, none⟩ = some (.slice none 0 0) := by go_simp
  have y1 : (w5.alloc (.cells #[.slice none 0 0, .slice none 0 0] 24)).cell? ⟨w5.heap.size, 1, none⟩ = some (.slice none 0 0) := by go_simp
  replace hmw := hmw.below hby
  replace hrw := hrw.below hby
  replace kM := kM.below hby
  replace kR := kR.below hby
  replace p0 := keep p0 hby
  replace p1 := keep p1 hby
  replace k0 := keep k0 hby
  replace k1 := keep k1 hby
  replace x0 := keep x0 hby
  replace x1 := keep x1 hby
  have hB6 := hB5.trans (hby.mono hB5.size)
  clear hb5 hB4 hB5 hby q0 q1
  go_wp2_with fail
  go_at_call 12
  refine (sameBoot_eq _ none none none none 0 0 0 0 0 0 [] [] (⟨rfl, by omega, RegsAt.nil _ _⟩ : Regs _ none 0 []) (⟨rfl, by omega, RegsAt.nil _ _⟩ : Regs _ none 0 []) (⟨rfl, by omega, RegsAt.nil _ _⟩ : Regs _ none 0 []) (⟨rfl, by omega, RegsAt.nil _ _⟩ : Regs _ none 0 [])).mono ?_
  rintro e w7 ⟨rfl, hb7⟩
  replace hmw := hmw.below hb7
  replace hrw := hrw.below hb7
  replace kM := kM.below hb7
  replace kR := kR.below hb7
  replace p0 := keep p0 hb7
  replace p1 := keep p1 hb7
  replace k0 := keep k0 hb7
  replace k1 := keep k1 hb7
  have hB7 := hB6.trans (hb7.mono hB6.size)
  clear x0 x1 y0 y1 hb7 hB6
  go_wp2_with fail
  go_at_call 12
  refine (sameBoot_eq _ km mo kr ro mn kc mc rn kd rc M R kM hmw kR hrw).mono ?_
  rintro e w8 ⟨rfl, hb8⟩
  go_wp2
  go_ret
  exact ⟨rfl, hB7.trans (hb8.mono hB7.size)⟩

set_option maxHeartbeats 4000000 in
theorem bootFrees_ok (mo : Option Addr) (mn mc : Nat) (M : List (Int × Int)) (ro : Option Addr) (rn rc : Nat) (R : List (Int × Int)) (f s : Int) (w : World) (hm : IsRegs w mo mn mc M) (hr : IsRegs w ro rn rc R) (hM : MayP M ∧ MayP R) (h : regOk (f, s)) (hl : (drawnAll (chH f s false R)).length ≤ 40) :
    Calls Try.prog 6 #[.agg #[.slice mo mn mc, .slice ro rn rc], .agg #[.int .i64 f, .int .i64 s]] w fun e w' => e = .returned (.bool true) ∧ Below w.heap.size w w' := by
  obtain ⟨D, hD⟩ : ∃ D, (drawnAll (chH f s false R)) = D := ⟨_, rfl⟩
  have HD : Hid ((drawnAll (chH f s false R)) = D) := hD
  clear hD
  have hb2 : Below w.heap.size w ((w.alloc (.cells #[.slice mo mn mc, .slice ro rn rc] 24)).alloc (.cells #[.int .i64 f, .int .i64 s] 26)) := ((Below.refl _ _).alloc (Nat.le_refl _) _).alloc (by simp) _
  have tM := hm.top
  have tR := hr.top
  have hmI := hm.below hb2
  have hrI := hr.below hb2
  have p0 : ((w.alloc (.cells #[.slice mo mn mc, .slice ro rn rc] 24)).alloc (.cells #[.int .i64 f, .int .i64 s] 26)).cell? ⟨w.heap.size, 0, none⟩ = some (.slice mo mn mc) := by go_simp
  have p1 : ((w.alloc (.cells #[.slice mo mn mc, .slice ro rn rc] 24)).alloc (.cells #[.int .i64 f, .int .i64 s] 26)).cell? ⟨w.heap.size, 1, none⟩ = some (.slice ro rn rc) := by go_simp
  have q0 : ((w.alloc (.cells #[.slice mo mn mc, .slice ro rn rc] 24)).alloc (.cells #[.int .i64 f, .int .i64 s] 26)).cell? ⟨w.heap.size + 1, 0, none⟩ = some (.int .i64 f) := by go_simp
  have q1 : ((w.alloc (.cells #[.slice mo mn mc, .slice ro rn rc] 24)).alloc (.cells #[.int .i64 f, .int .i64 s] 26)).cell? ⟨w.heap.size + 1, 1, none⟩ = some (.int .i64 s) := by go_simp
  go_enter Try.func6, Try.ntmps6
  go_wp2_with fail
  go_at_call 9
  refine (boots_any _ mo mn mc M ro rn rc R hmI hrI).mono ?_
  rintro e w1 ⟨km, kc, kr, kd, rfl, kM, kR, hb1⟩
  have hmw := hmI.regs.below hb1
  have hrw := hrI.regs.below hb1
  have hB1 := hb2.trans (hb1.mono hb2.size)
  replace p0 := keep p0 hb1
  replace p1 := keep p1 hb1
  replace q0 := keep q0 hb1
  replace q1 := keep q1 hb1
  have hbk := below_box w1 (.cells #[.slice km mn kc, .slice kr rn kd] 24)
  have k0 : (w1.alloc (.cells #[.slice km mn kc, .slice kr rn kd] 24)).cell? ⟨w1.heap.size, 0, none⟩ = some (.slice km mn kc) := by go_simp
  have k1 : (w1.alloc (.cells #[.slice km mn kc, .slice kr rn kd] 24)).cell? ⟨w1.heap.size, 1, none⟩ = some (.slice kr rn kd) := by go_simp
  replace kM := kM.below hbk
  replace kR := kR.below hbk
  replace hmw := hmw.below hbk
  replace hrw := hrw.below hbk
  replace p0 := keep p0 hbk
  replace p1 := keep p1 hbk
  replace q0 := keep q0 hbk
  replace q1 := keep q1 hbk
  have hB2 := hB1.trans (hbk.mono hB1.size)
  clear hm hr hmI hrI hb1 hb2 hB1 hbk
  go_wp2_with fail
  go_at_call 15
  have HC := cFree_ok _ km mn kc M kr rn kd R f s kM kR hM h hl
  rw [HD.out] at HC
  refine HC.mono ?_
  rintro e w3 ⟨xm, xn, xc, xr, xo, xd, rfl, xM, xR, _, _, hb3⟩
  clear HC
  replace hmw := hmw.below hb3
  replace hrw := hrw.below hb3
  replace kM := kM.below hb3
  replace kR := kR.below hb3
  replace p0 := keep p0 hb3
  replace p1 := keep p1 hb3
  replace q0 := keep q0 hb3
  replace q1 := keep q1 hb3
  replace k0 := keep k0 hb3
  replace k1 := keep k1 hb3
  have hB3 := hB2.trans (hb3.mono hB2.size)
  have hbx := below_box w3 (.cells #[.slice xm xn xc, .slice xr xo xd] 24)
  have x0 : (w3.alloc (.cells #[.slice xm xn xc, .slice xr xo xd] 24)).cell? ⟨w3.heap.size, 0, none⟩ = some (.slice xm xn xc) := by go_simp
  have x1 : (w3.alloc (.cells #[.slice xm xn xc, .slice xr xo xd] 24)).cell? ⟨w3.heap.size, 1, none⟩ = some (.slice xr xo xd) := by go_simp
  replace hmw := hmw.below hbx
  replace hrw := hrw.below hbx
  replace kM := kM.below hbx
  replace kR := kR.below hbx
  replace p0 := keep p0 hbx
  replace p1 := keep p1 hbx
  replace q0 := keep q0 hbx
  replace q1 := keep q1 hbx
  replace k0 := keep k0 hbx
  replace k1 := keep k1 hbx
  replace xM := xM.below hbx
  replace xR := xR.below hbx
  have hB4 := hB3.trans (hbx.mono hB3.size)
  clear hb3 hB2 hB3 hbx
  go_wp2_with fail
  go_at_call 11
  have HC := changedOf_ok_true _ mo mn mc M ro rn rc R f s false hmw hrw hM h hl
  rw [HD.out] at HC
  refine HC.mono ?_
  rintro e w5 ⟨ym, yn, yc, yr, yo, yd, rfl, yM, yR, _, _, hb5⟩
  clear HC
  replace xM := xM.below hb5
  replace xR := xR.below hb5
  obtain rfl : xn = yn := xM.len.symm.trans yM.len
  obtain rfl : xo = yo := xR.len.symm.trans yR.len
  replace hmw := hmw.below hb5
  replace hrw := hrw.below hb5
  replace kM := kM.below hb5
  replace kR := kR.below hb5
  replace p0 := keep p0 hb5
  replace p1 := keep p1 hb5
  replace k0 := keep k0 hb5
  replace k1 := keep k1 hb5
  replace x0 := keep x0 hb5
  replace x1 := keep x1 hb5
  have hB5 := hB4.trans (hb5.mono hB4.size)
  have hby := below_box w5 (.cells #[.slice ym xn yc, .slice yr xo yd] 24)
  have y0 : (w5.alloc (.cells #[.slice ym xn yc, .slice yr xo yd] 24)).cell? ⟨w5.heap.size, 0, none⟩ = some (.slice ym xn yc) := by go_simp
  have y1 : (w5.alloc (.cells #[.slice ym xn yc, .slice yr xo yd] 24)).cell? ⟨w5.heap.size, 1, none⟩ = some (.slice yr xo yd) := by go_simp
  replace hmw := hmw.below hby
  replace hrw := hrw.below hby
  replace kM := kM.below hby
  replace kR := kR.below hby
  replace p0 := keep p0 hby
  replace p1 := keep p1 hby
  replace k0 := keep k0 hby
  replace k1 := keep k1 hby
  replace x0 := keep x0 hby
  replace x1 := keep x1 hby
  replace xM := xM.below hby
  replace xR := xR.below hby
  replace yM := yM.below hby
  replace yR := yR.below hby
  have hB6 := hB5.trans (hby.mono hB5.size)
  clear hb5 hB4 hB5 hby q0 q1
  go_wp2_with fail
  go_at_call 12
  refine (sameBoot_eq _ xm ym xr yr xn xc yc xo xd yd M D xM yM xR yR).mono ?_
  rintro e w7 ⟨rfl, hb7⟩
  replace hmw := hmw.below hb7
  replace hrw := hrw.below hb7
  replace kM := kM.below hb7
  replace kR := kR.below hb7
  replace p0 := keep p0 hb7
  replace p1 := keep p1 hb7
  replace k0 := keep k0 hb7
  replace k1 := keep k1 hb7
  have hB7 := hB6.trans (hb7.mono hB6.size)
  clear x0 x1 y0 y1 hb7 hB6
  go_wp2_with fail
  go_at_call 12
  refine (sameBoot_eq _ km mo kr ro mn kc mc rn kd rc M R kM hmw kR hrw).mono ?_
  rintro e w8 ⟨rfl, hb8⟩
  go_wp2
  go_ret
  exact ⟨rfl, hB7.trans (hb8.mono hB7.size)⟩

theorem bootFrees_walk (mo : Option Addr) (mn mc : Nat) (M : List (Int × Int)) (ro : Option Addr) (rn rc : Nat) (R : List (Int × Int)) (f s : Int) (w : World) (hm : IsRegs w mo mn mc M) (hr : IsRegs w ro rn rc R) (_w0 : (Lit.int .i64 f).wf = true) (_w1 : (Lit.int .i64 s).wf = true) :
    Calls Try.prog 6 #[.agg #[.slice mo mn mc, .slice ro rn rc], .agg #[.int .i64 f, .int .i64 s]] w fun e w' => e = .returned (.bool true) ∧ Below w.heap.size w w' := by
  by_cases hM : MayP M ∧ MayP R
  · by_cases h : regOk (f, s)
    · by_cases hl : (drawnAll (chH f s false R)).length ≤ 40
      · exact bootFrees_ok mo mn mc M ro rn rc R f s w hm hr hM h hl
      · exact bootFrees_size mo mn mc M ro rn rc R f s w hm hr hM h (by omega)
    · exact bootFrees_range mo mn mc M ro rn rc R f s w hm hr (wf_top _w1) hM h
  · exact bootFrees_state mo mn mc M ro rn rc R f s w hm hr hM

end Go.Proofs.Ytfogdgnlbgoakac
