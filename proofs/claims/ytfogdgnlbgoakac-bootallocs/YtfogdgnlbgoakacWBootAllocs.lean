/-
  OWN TEXT. The walk of the law BootAllocs: it returns true and writes nothing that was there.
-/
import Derived.Test.YtfogdgnlbgoakacBcMain
import Derived.Test.YtfogdgnlbgoakacRefL2
import Derived.Test.YtfogdgnlbgoakacSameB
namespace Go.Proofs.Ytfogdgnlbgoakac
open Go Go.RowKit Go.Proofs.Ytfogdgnlbgoakac.Kit

set_option maxHeartbeats 4000000 in
theorem bootAllocs_state (mo : Option Addr) (mn mc : Nat) (M : List (Int × Int)) (ro : Option Addr) (rn rc : Nat) (R : List (Int × Int)) (sz al lo hi : Int) (down : Bool) (w : World) (hm : IsRegs w mo mn mc M) (hr : IsRegs w ro rn rc R) (h : ¬ (MayP M ∧ MayP R)) :
    Calls Try.prog 8 #[.agg #[.slice mo mn mc, .slice ro rn rc], .int .i64 sz, .int .i64 al, .int .i64 lo, .int .i64 hi, .bool down] w fun e w' => e = .returned (.bool true) ∧ Below w.heap.size w w' := by
  have hb2 := below_box w (.cells #[.slice mo mn mc, .slice ro rn rc] 24)
  have tM := hm.top
  have tR := hr.top
  have hmI := hm.below hb2
  have hrI := hr.below hb2
  have p0 : (w.alloc (.cells #[.slice mo mn mc, .slice ro rn rc] 24)).cell? ⟨w.heap.size, 0, none⟩ = some (.slice mo mn mc) := by go_simp
  have p1 : (w.alloc (.cells #[.slice mo mn mc, .slice ro rn rc] 24)).cell? ⟨w.heap.size, 1, none⟩ = some (.slice ro rn rc) := by go_simp
  go_enter Try.func8, Try.ntmps8
  go_wp2_with fail
  go_at_call 9
  refine (boots_any _ mo mn mc M ro rn rc R hmI hrI).mono ?_
  rintro e w1 ⟨km, kc, kr, kd, rfl, kM, kR, hb1⟩
  have hmw := hmI.regs.below hb1
  have hrw := hrI.regs.below hb1
  have hB1 := hb2.trans (hb1.mono hb2.size)
  replace p0 := keep p0 hb1
  replace p1 := keep p1 hb1
  have hbk := below_box w1 (.cells #[.slice km mn kc, .slice kr rn kd] 24)
  have k0 : (w1.alloc (.cells #[.slice km mn kc, .slice kr rn kd] 24)).cell? ⟨w1.heap.size, 0, none⟩ = some (.slice km mn kc) := by go_simp
  have k1 : (w1.alloc (.cells #[.slice km mn kc, .slice kr rn kd] 24)).cell? ⟨w1.heap.size, 1, none⟩ = some (.slice kr rn kd) := by go_simp
  replace kM := kM.below hbk
  replace kR := kR.below hbk
  replace hmw := hmw.below hbk
  replace hrw := hrw.below hbk
  replace p0 := keep p0 hbk
  replace p1 := keep p1 hbk
  have hB2 := hB1.trans (hbk.mono hB1.size)
  clear hm hr hmI hrI hb1 hb2 hB1 hbk
  go_wp2_with fail
  go_at_call 19
  refine (cAlloc_state _ km mn kc M kr rn kd R sz al lo hi down kM kR tM tR h).mono ?_
  rintro e w3 ⟨rfl, hb3⟩
  replace hmw := hmw.below hb3
  replace hrw := hrw.below hb3
  replace kM := kM.below hb3
  replace kR := kR.below hb3
  replace p0 := keep p0 hb3
  replace p1 := keep p1 hb3
  replace k0 := keep k0 hb3
  replace k1 := keep k1 hb3
  have hB3 := hB2.trans (hb3.mono hB2.size)
  have hbx := below_box w3 (.cells #[.slice none 0 0, .slice none 0 0] 24)
  have x0 : (w3.alloc (.cells #[.slice none 0 0, .slice none 0 0] 24)).cell? ⟨w3.heap.size, 0, none⟩ = some (.slice none 0 0) := by go_simp
  have x1 : (w3.alloc (.cells #[.slice none 0 0, .slice none 0 0] 24)).cell? ⟨w3.heap.size, 1, none⟩ = some (.slice none 0 0) := by go_simp
  replace hmw := hmw.below hbx
  replace hrw := hrw.below hbx
  replace kM := kM.below hbx
  replace kR := kR.below hbx
  replace p0 := keep p0 hbx
  replace p1 := keep p1 hbx
  replace k0 := keep k0 hbx
  replace k1 := keep k1 hbx
  have hB4 := hB3.trans (hbx.mono hB3.size)
  clear hb3 hB2 hB3 hbx
  go_wp2_with fail
  go_at_call 20
  refine (bootAlloc_state _ mo mn mc M ro rn rc R sz al lo hi down hmw hrw h).mono ?_
  rintro e w5 ⟨rfl, hb5⟩
  replace hmw := hmw.below hb5
  replace hrw := hrw.below hb5
  replace kM := kM.below hb5
  replace kR := kR.below hb5
  replace p0 := keep p0 hb5
  replace p1 := keep p1 hb5
  replace k0 := keep k0 hb5
  replace k1 := keep k1 hb5
  replace x0 := keep x0 hb5
  replace x1 := keep x1 hb5
  have hB5 := hB4.trans (hb5.mono hB4.size)
  have hby := below_box w5 (.cells #[.slice none 0 0, .slice none 0 0] 24)
  have y0 : (w5.alloc (.cells #[.slice none 0 0, .slice none 0 0] 24)).cell? ⟨w5.heap.size, 0, none⟩ = some (.slice none 0 0) := by go_simp
  have y1 : (w5.alloc (.cells #[.slice none 0 0, .slice none 0 0] 24)).cell? ⟨w5.heap.size, 1, none⟩ = some (.slice none 0 0) := by go_simp
  replace hmw := hmw.below hby
  replace hrw := hrw.below hby
  replace kM := kM.below hby
  replace kR := kR.below hby
  replace p0 := keep p0 hby
  replace p1 := keep p1 hby
  replace k0 := keep k0 hby
  replace k1 := keep k1 hby
  replace x0 := keep x0 hby
  replace x1 := keep x1 hby
  have hB6 := hB5.trans (hby.mono hB5.size)
  clear hb5 hB4 hB5 hby
  go_wp2_with fail
  go_at_call 12
  refine (sameBoot_eq _ none none none none 0 0 0 0 0 0 [] [] (⟨rfl, by omega, RegsAt.nil _ _⟩ : Regs _ none 0 []) (⟨rfl, by omega, RegsAt.nil _ _⟩ : Regs _ none 0 []) (⟨rfl, by omega, RegsAt.nil _ _⟩ : Regs _ none 0 []) (⟨rfl, by omega, RegsAt.nil _ _⟩ : Regs _ none 0 [])).mono ?_
  rintro e w7 ⟨rfl, hb7⟩
  replace hmw := hmw.below hb7
  replace hrw := hrw.below hb7
  replace kM := kM.below hb7
  replace kR := kR.below hb7
  replace p0 := keep p0 hb7
  replace p1 := keep p1 hb7
  replace k0 := keep k0 hb7
  replace k1 := keep k1 hb7
  have hB7 := hB6.trans (hb7.mono hB6.size)
  clear x0 x1 y0 y1 hb7 hB6
  go_wp2_with fail
  go_at_call 12
  refine (sameBoot_eq _ km mo kr ro mn kc mc rn kd rc M R kM hmw kR hrw).mono ?_
  rintro e w8 ⟨rfl, hb8⟩
  go_wp2
  go_ret
  exact ⟨rfl, hB7.trans (hb8.mono hB7.size)⟩

set_option maxHeartbeats 4000000 in
theorem bootAllocs_range (mo : Option Addr) (mn mc : Nat) (M : List (Int × Int)) (ro : Option Addr) (rn rc : Nat) (R : List (Int × Int)) (sz al lo hi : Int) (down : Bool) (w : World) (hm : IsRegs w mo mn mc M) (hr : IsRegs w ro rn rc R) (hM : MayP M ∧ MayP R) (h : (inB sz 1 256 && inB al 1 256 && inB lo 0 256 && inB hi lo 256) = false) :
    Calls Try.prog 8 #[.agg #[.slice mo mn mc, .slice ro rn rc], .int .i64 sz, .int .i64 al, .int .i64 lo, .int .i64 hi, .bool down] w fun e w' => e = .returned (.bool true) ∧ Below w.heap.size w w' := by
  have hb2 := below_box w (.cells #[.slice mo mn mc, .slice ro rn rc] 24)
  have tM := hm.top
  have tR := hr.top
  have hmI := hm.below hb2
  have hrI := hr.below hb2
  have p0 : (w.alloc (.cells #[.slice mo mn mc, .slice ro rn rc] 24)).cell? ⟨w.heap.size, 0, none⟩ = some (.slice mo mn mc) := by go_simp
  have p1 : (w.alloc (.cells #[.slice mo mn mc, .slice ro rn rc] 24)).cell? ⟨w.heap.size, 1, none⟩ = some (.slice ro rn rc) := by go_simp
  go_enter Try.func8, Try.ntmps8
  go_wp2_with fail
  go_at_call 9
  refine (boots_any _ mo mn mc M ro rn rc R hmI hrI).mono ?_
  rintro e w1 ⟨km, kc, kr, kd, rfl, kM, kR, hb1⟩
  have hmw := hmI.regs.below hb1
  have hrw := hrI.regs.below hb1
  have hB1 := hb2.trans (hb1.mono hb2.size)
  replace p0 := keep p0 hb1
  replace p1 := keep p1 hb1
  have hbk := below_box w1 (.cells #[.slice km mn kc, .slice kr rn kd] 24)
  have k0 : (w1.alloc (.cells #[.slice km mn kc, .slice kr rn kd] 24)).cell? ⟨w1.heap.size, 0, none⟩ = some (.slice km mn kc) := by go_simp
  have k1 : (w1.alloc (.cells #[.slice km mn kc, .slice kr rn kd] 24)).cell? ⟨w1.heap.size, 1, none⟩ = some (.slice kr rn kd) := by go_simp
  replace kM := kM.below hbk
  replace kR := kR.below hbk
  replace hmw := hmw.below hbk
  replace hrw := hrw.below hbk
  replace p0 := keep p0 hbk
  replace p1 := keep p1 hbk
  have hB2 := hB1.trans (hbk.mono hB1.size)
  clear hm hr hmI hrI hb1 hb2 hB1 hbk
  go_wp2_with fail
  go_at_call 19
  refine (cAlloc_range _ km mn kc M kr rn kd R sz al lo hi down kM kR hM h).mono ?_
  rintro e w3 ⟨rfl, hb3⟩
  replace hmw := hmw.below hb3
  replace hrw := hrw.below hb3
  replace kM := kM.below hb3
  replace kR := kR.below hb3
  replace p0 := keep p0 hb3
  replace p1 := keep p1 hb3
  replace k0 := keep k0 hb3
  replace k1 := keep k1 hb3
  have hB3 := hB2.trans (hb3.mono hB2.size)
  have hbx := below_box w3 (.cells #[.slice none 0 0, .slice none 0 0] 24)
  have x0 : (w3.alloc (.cells #[.slice none 0 0, .slice none 0 0] 24)).cell? ⟨w3.heap.size, 0, none⟩ = some (.slice none 0 0) := by go_simp
  have x1 : (w3.alloc (.cells #[.slice none 0 0, .slice none 0 0] 24)).cell? ⟨w3.heap.size, 1, none⟩ = some (.slice none 0 0) := by go_simp
  replace hmw := hmw.below hbx
  replace hrw := hrw.below hbx
  replace kM := kM.below hbx
  replace kR := kR.below hbx
  replace p0 := keep p0 hbx
  replace p1 := keep p1 hbx
  replace k0 := keep k0 hbx
  replace k1 := keep k1 hbx
  have hB4 := hB3.trans (hbx.mono hB3.size)
  clear hb3 hB2 hB3 hbx
  go_wp2_with fail
  go_at_call 20
  refine (bootAlloc_range _ mo mn mc M ro rn rc R sz al lo hi down hmw hrw hM h).mono ?_
  rintro e w5 ⟨rfl, hb5⟩
  replace hmw := hmw.below hb5
  replace hrw := hrw.below hb5
  replace kM := kM.below hb5
  replace kR := kR.below hb5
  replace p0 := keep p0 hb5
  replace p1 := keep p1 hb5
  replace k0 := keep k0 hb5
  replace k1 := keep k1 hb5
  replace x0 := keep x0 hb5
  replace x1 := keep x1 hb5
  have hB5 := hB4.trans (hb5.mono hB4.size)
  have hby := below_box w5 (.cells #[.slice none 0 0, .slice none 0 0] 24)
  have y0 : (w5.alloc (.cells #[.slice none 0 0, .slice none 0 0] 24)).cell? ⟨w5.heap.size, 0, none⟩ = some (.slice none 0 0) := by go_simp
  have y1 : (w5.alloc (.cells #[.slice none 0 0, .slice none 0 0] 24)).cell? ⟨w5.heap.size, 1, none⟩ = some (.slice none 0 0) := by go_simp
  replace hmw := hmw.below hby
  replace hrw := hrw.below hby
  replace kM := kM.below hby
  replace kR := kR.below hby
  replace p0 := keep p0 hby
  replace p1 := keep p1 hby
  replace k0 := keep k0 hby
  replace k1 := keep k1 hby
  replace x0 := keep x0 hby
  replace x1 := keep x1 hby
  have hB6 := hB5.trans (hby.mono hB5.size)
  clear hb5 hB4 hB5 hby
  go_wp2_with fail
  go_at_call 12
  refine (sameBoot_eq _ none none none none 0 0 0 0 0 0 [] [] (⟨rfl, by omega, RegsAt.nil _ _⟩ : Regs _ none 0 []) (⟨rfl, by omega, RegsAt.nil _ _⟩ : Regs _ none 0 []) (⟨rfl, by omega, RegsAt.nil _ _⟩ : Regs _ none 0 []) (⟨rfl, by omega, RegsAt.nil _ _⟩ : Regs _ none 0 [])).mono ?_
  rintro e w7 ⟨rfl, hb7⟩
  replace hmw := hmw.below hb7
  replace hrw := hrw.below hb7
  replace kM := kM.below hb7
  replace kR := kR.below hb7
  replace p0 := keep p0 hb7
  replace p1 := keep p1 hb7
  replace k0 := keep k0 hb7
  replace k1 := keep k1 hb7
  have hB7 := hB6.trans (hb7.mono hB6.size)
  clear x0 x1 y0 y1 hb7 hB6
  go_wp2_with fail
  go_at_call 12
  refine (sameBoot_eq _ km mo kr ro mn kc mc rn kd rc M R kM hmw kR hrw).mono ?_
  rintro e w8 ⟨rfl, hb8⟩
  go_wp2
  go_ret
  exact ⟨rfl, hB7.trans (hb8.mono hB7.size)⟩

set_option maxHeartbeats 8000000 in
set_option maxRecDepth 4000 in
theorem bootAllocs_room (mo : Option Addr) (mn mc : Nat) (M : List (Int × Int)) (ro : Option Addr) (rn rc : Nat) (R : List (Int × Int)) (sz al lo hi : Nat) (down : Bool) (w : World) (hm : IsRegs w mo mn mc M) (hr : IsRegs w ro rn rc R) (hM : MayP M ∧ MayP R) (h1 : 1 ≤ sz) (h2 : sz ≤ 256) (h3 : 1 ≤ al) (h4 : al ≤ 256) (h5 : lo ≤ hi) (h6 : hi ≤ 256) (B : Int) (hB : Hid (bestK (freeH M R) sz al lo down (places sz lo hi) = B)) (hn : B < 0) :
    Calls Try.prog 8 #[.agg #[.slice mo mn mc, .slice ro rn rc], .int .i64 sz, .int .i64 al, .int .i64 lo, .int .i64 hi, .bool down] w fun e w' => e = .returned (.bool true) ∧ Below w.heap.size w w' := by
  have hb2 := below_box w (.cells #[.slice mo mn mc, .slice ro rn rc] 24)
  have tM := hm.top
  have tR := hr.top
  have hmI := hm.below hb2
  have hrI := hr.below hb2
  have p0 : (w.alloc (.cells #[.slice mo mn mc, .slice ro rn rc] 24)).cell? ⟨w.heap.size, 0, none⟩ = some (.slice mo mn mc) := by go_simp
  have p1 : (w.alloc (.cells #[.slice mo mn mc, .slice ro rn rc] 24)).cell? ⟨w.heap.size, 1, none⟩ = some (.slice ro rn rc) := by go_simp
  go_enter Try.func8, Try.ntmps8
  go_wp2_with fail
  go_at_call 9
  refine (boots_any _ mo mn mc M ro rn rc R hmI hrI).mono ?_
  rintro e w1 ⟨km, kc, kr, kd, rfl, kM, kR, hb1⟩
  have hmw := hmI.regs.below hb1
  have hrw := hrI.regs.below hb1
  have hB1 := hb2.trans (hb1.mono hb2.size)
  replace p0 := keep p0 hb1
  replace p1 := keep p1 hb1
  have hbk := below_box w1 (.cells #[.slice km mn kc, .slice kr rn kd] 24)
  have k0 : (w1.alloc (.cells #[.slice km mn kc, .slice kr rn kd] 24)).cell? ⟨w1.heap.size, 0, none⟩ = some (.slice km mn kc) := by go_simp
  have k1 : (w1.alloc (.cells #[.slice km mn kc, .slice kr rn kd] 24)).cell? ⟨w1.heap.size, 1, none⟩ = some (.slice kr rn kd) := by go_simp
  replace kM := kM.below hbk
  replace kR := kR.below hbk
  replace hmw := hmw.below hbk
  replace hrw := hrw.below hbk
  replace p0 := keep p0 hbk
  replace p1 := keep p1 hbk
  have hB2 := hB1.trans (hbk.mono hB1.size)
  clear hm hr hmI hrI hb1 hb2 hB1 hbk
  go_wp2_with fail
  go_at_call 19
  have HC := cAlloc_main _ km mn kc M kr rn kd R sz al lo hi down kM kR hM h1 h2 h3 h4 h5 h6
  rw [hB.out] at HC
  refine HC.mono ?_
  rintro e w3 ⟨HE, hb3⟩
  have he : e = .returned (.tuple #[.agg #[.slice none 0 0, .slice none 0 0], .int .i64 0, .int .i64 6]) := by
    rcases HE with ⟨_, g⟩ | ⟨g, _⟩ | ⟨g, _⟩
    · exact g
    · omega
    · omega
  subst he
  clear HC HE
  replace hmw := hmw.below hb3
  replace hrw := hrw.below hb3
  replace kM := kM.below hb3
  replace kR := kR.below hb3
  replace p0 := keep p0 hb3
  replace p1 := keep p1 hb3
  replace k0 := keep k0 hb3
  replace k1 := keep k1 hb3
  have hB3 := hB2.trans (hb3.mono hB2.size)
  have hbx := below_box w3 (.cells #[.slice none 0 0, .slice none 0 0] 24)
  have x0 : (w3.alloc (.cells #[.slice none 0 0, .slice none 0 0] 24)).cell? ⟨w3.heap.size, 0, none⟩ = some (.slice none 0 0) := by go_simp
  have x1 : (w3.alloc (.cells #[.slice none 0 0, .slice none 0 0] 24)).cell? ⟨w3.heap.size, 1, none⟩ = some (.slice none 0 0) := by go_simp
  replace hmw := hmw.below hbx
  replace hrw := hrw.below hbx
  replace kM := kM.below hbx
  replace kR := kR.below hbx
  replace p0 := keep p0 hbx
  replace p1 := keep p1 hbx
  replace k0 := keep k0 hbx
  replace k1 := keep k1 hbx
  have hB4 := hB3.trans (hbx.mono hB3.size)
  clear hb3 hB2 hB3 hbx
  go_wp2_with fail
  go_at_call 20
  have HC := bootAlloc_main _ mo mn mc M ro rn rc R sz al lo hi down hmw hrw hM h1 h2 h3 h4 h5 h6
  rw [hB.out] at HC
  refine HC.mono ?_
  rintro e w5 ⟨HE, hb5⟩
  have he : e = .returned (.tuple #[.agg #[.slice none 0 0, .slice none 0 0], .int .i64 0, .int .i64 6]) := by
    rcases HE with ⟨_, g⟩ | ⟨g, _⟩ | ⟨g, _⟩
    · exact g
    · omega
    · omega
  subst he
  clear HC HE
  replace hmw := hmw.below hb5
  replace hrw := hrw.below hb5
  replace kM := kM.below hb5
  replace kR := kR.below hb5
  replace p0 := keep p0 hb5
  replace p1 := keep p1 hb5
  replace k0 := keep k0 hb5
  replace k1 := keep k1 hb5
  replace x0 := keep x0 hb5
  replace x1 := keep x1 hb5
  have hB5 := hB4.trans (hb5.mono hB4.size)
  have hby := below_box w5 (.cells #[.slice none 0 0, .slice none 0 0] 24)
  have y0 : (w5.alloc (.cells #[.slice none 0 0, .slice none 0 0] 24)).cell? ⟨w5.heap.size, 0, none⟩ = some (.slice none 0 0) := by go_simp
  have y1 : (w5.alloc (.cells #[.slice none 0 0, .slice none 0 0] 24)).cell? ⟨w5.heap.size, 1, none⟩ = some (.slice none 0 0) := by go_simp
  replace hmw := hmw.below hby
  replace hrw := hrw.below hby
  replace kM := kM.below hby
  replace kR := kR.below hby
  replace p0 := keep p0 hby
  replace p1 := keep p1 hby
  replace k0 := keep k0 hby
  replace k1 := keep k1 hby
  replace x0 := keep x0 hby
  replace x1 := keep x1 hby
  have hB6 := hB5.trans (hby.mono hB5.size)
  clear hb5 hB4 hB5 hby
  go_wp2_with fail
  go_at_call 12
  refine (sameBoot_eq _ none none none none 0 0 0 0 0 0 [] [] (⟨rfl, by omega, RegsAt.nil _ _⟩ : Regs _ none 0 []) (⟨rfl, by omega, RegsAt.nil _ _⟩ : Regs _ none 0 []) (⟨rfl, by omega, RegsAt.nil _ _⟩ : Regs _ none 0 []) (⟨rfl, by omega, RegsAt.nil _ _⟩ : Regs _ none 0 [])).mono ?_
  rintro e w7 ⟨rfl, hb7⟩
  replace hmw := hmw.below hb7
  replace hrw := hrw.below hb7
  replace kM := kM.below hb7
  replace kR := kR.below hb7
  replace p0 := keep p0 hb7
  replace p1 := keep p1 hb7
  replace k0 := keep k0 hb7
  replace k1 := keep k1 hb7
  have hB7 := hB6.trans (hb7.mono hB6.size)
  clear x0 x1 y0 y1 hb7 hB6
  go_wp2_with fail
  go_at_call 12
  refine (sameBoot_eq _ km mo kr ro mn kc mc rn kd rc M R kM hmw kR hrw).mono ?_
  rintro e w8 ⟨rfl, hb8⟩
  go_wp2
  go_ret
  exact ⟨rfl, hB7.trans (hb8.mono hB7.size)⟩

set_option maxHeartbeats 8000000 in
set_option maxRecDepth 4000 in
theorem bootAllocs_size (mo : Option Addr) (mn mc : Nat) (M : List (Int × Int)) (ro : Option Addr) (rn rc : Nat) (R : List (Int × Int)) (sz al lo hi : Nat) (down : Bool) (w : World) (hm : IsRegs w mo mn mc M) (hr : IsRegs w ro rn rc R) (hM : MayP M ∧ MayP R) (h1 : 1 ≤ sz) (h2 : sz ≤ 256) (h3 : 1 ≤ al) (h4 : al ≤ 256) (h5 : lo ≤ hi) (h6 : hi ≤ 256) (B : Int) (hB : Hid (bestK (freeH M R) sz al lo down (places sz lo hi) = B)) (hn : 0 ≤ B) (hl : 40 < (drawnAll (chH B sz true R)).length) :
    Calls Try.prog 8 #[.agg #[.slice mo mn mc, .slice ro rn rc], .int .i64 sz, .int .i64 al, .int .i64 lo, .int .i64 hi, .bool down] w fun e w' => e = .returned (.bool true) ∧ Below w.heap.size w w' := by
  have hb2 := below_box w (.cells #[.slice mo mn mc, .slice ro rn rc] 24)
  have tM := hm.top
  have tR := hr.top
  have hmI := hm.below hb2
  have hrI := hr.below hb2
  have p0 : (w.alloc (.cells #[.slice mo mn mc, .slice ro rn rc] 24)).cell? ⟨w.heap.size, 0, none⟩ = some (.slice mo mn mc) := by go_simp
  have p1 : (w.alloc (.cells #[.slice mo mn mc, .slice ro rn rc] 24)).cell? ⟨w.heap.size, 1, none⟩ = some (.slice ro rn rc) := by go_simp
  go_enter Try.func8, Try.ntmps8
  go_wp2_with fail
  go_at_call 9
  refine (boots_any _ mo mn mc M ro rn rc R hmI hrI).mono ?_
  rintro e w1 ⟨km, kc, kr, kd, rfl, kM, kR, hb1⟩
  have hmw := hmI.regs.below hb1
  have hrw := hrI.regs.below hb1
  have hB1 := hb2.trans (hb1.mono hb2.size)
  replace p0 := keep p0 hb1
  replace p1 := keep p1 hb1
  have hbk := below_box w1 (.cells #[.slice km mn kc, .slice kr rn kd] 24)
  have k0 : (w1.alloc (.cells #[.slice km mn kc, .slice kr rn kd] 24)).cell? ⟨w1.heap.size, 0, none⟩ = some (.slice km mn kc) := by go_simp
  have k1 : (w1.alloc (.cells #[.slice km mn kc, .slice kr rn kd] 24)).cell? ⟨w1.heap.size, 1, none⟩ = some (.slice kr rn kd) := by go_simp
  replace kM := kM.below hbk
  replace kR := kR.below hbk
  replace hmw := hmw.below hbk
  replace hrw := hrw.below hbk
  replace p0 := keep p0 hbk
  replace p1 := keep p1 hbk
  have hB2 := hB1.trans (hbk.mono hB1.size)
  clear hm hr hmI hrI hb1 hb2 hB1 hbk
  go_wp2_with fail
  go_at_call 19
  have HC := cAlloc_main _ km mn kc M kr rn kd R sz al lo hi down kM kR hM h1 h2 h3 h4 h5 h6
  rw [hB.out] at HC
  refine HC.mono ?_
  rintro e w3 ⟨HE, hb3⟩
  have he : e = .returned (.tuple #[.agg #[.slice none 0 0, .slice none 0 0], .int .i64 0, .int .i64 9]) := by
    rcases HE with ⟨g, _⟩ | ⟨_, _, g⟩ | ⟨_, g, _⟩
    · omega
    · exact g
    · omega
  subst he
  clear HC HE
  replace hmw := hmw.below hb3
  replace hrw := hrw.below hb3
  replace kM := kM.below hb3
  replace kR := kR.below hb3
  replace p0 := keep p0 hb3
  replace p1 := keep p1 hb3
  replace k0 := keep k0 hb3
  replace k1 := keep k1 hb3
  have hB3 := hB2.trans (hb3.mono hB2.size)
  have hbx := below_box w3 (.cells #[.slice none 0 0, .slice none 0 0] 24)
  have x0 : (w3.alloc (.cells #[.slice none 0 0, .slice none 0 0] 24)).cell? ⟨w3.heap.size, 0, none⟩ = some (.slice none 0 0) := by go_simp
  have x1 : (w3.alloc (.cells #[.slice none 0 0, .slice none 0 0] 24)).cell? ⟨w3.heap.size, 1, none⟩ = some (.slice none 0 0) := by go_simp
  replace hmw := hmw.below hbx
  replace hrw := hrw.below hbx
  replace kM := kM.below hbx
  replace kR := kR.below hbx
  replace p0 := keep p0 hbx
  replace p1 := keep p1 hbx
  replace k0 := keep k0 hbx
  replace k1 := keep k1 hbx
  have hB4 := hB3.trans (hbx.mono hB3.size)
  clear hb3 hB2 hB3 hbx
  go_wp2_with fail
  go_at_call 20
  have HC := bootAlloc_main _ mo mn mc M ro rn rc R sz al lo hi down hmw hrw hM h1 h2 h3 h4 h5 h6
  rw [hB.out] at HC
  refine HC.mono ?_
  rintro e w5 ⟨HE, hb5⟩
  have he : e = .returned (.tuple #[.agg #[.slice none 0 0, .slice none 0 0], .int .i64 0, .int .i64 9]) := by
    rcases HE with ⟨g, _⟩ | ⟨_, _, g⟩ | ⟨_, g, _⟩
    · omega
    · exact g
    · omega
  subst he
  clear HC HE
  replace hmw := hmw.below hb5
  replace hrw := hrw.below hb5
  replace kM := kM.below hb5
  replace kR := kR.below hb5
  replace p0 := keep p0 hb5
  replace p1 := keep p1 hb5
  replace k0 := keep k0 hb5
  replace k1 := keep k1 hb5
  replace x0 := keep x0 hb5
  replace x1 := keep x1 hb5
  have hB5 := hB4.trans (hb5.mono hB4.size)
  have hby := below_box w5 (.cells #[.slice none 0 0, .slice none 0 0] 24)
  have y0 : (w5.alloc (.cells #[.slice none 0 0, .slice none 0 0] 24)).cell? ⟨w5.heap.size, 0, none⟩ = some (.slice none 0 0) := by go_simp
  have y1 : (w5.alloc (.cells #[.slice none 0 0, .slice none 0 0] 24)).cell? ⟨w5.heap.size, 1, none⟩ = some (.slice none 0 0) := by go_simp
  replace hmw := hmw.below hby
  replace hrw := hrw.below hby
  replace kM := kM.below hby
  replace kR := kR.below hby
  replace p0 := keep p0 hby
  replace p1 := keep p1 hby
  replace k0 := keep k0 hby
  replace k1 := keep k1 hby
  replace x0 := keep x0 hby
  replace x1 := keep x1 hby
  have hB6 := hB5.trans (hby.mono hB5.size)
  clear hb5 hB4 hB5 hby
  go_wp2_with fail
  go_at_call 12
  refine (sameBoot_eq _ none none none none 0 0 0 0 0 0 [] [] (⟨rfl, by omega, RegsAt.nil _ _⟩ : Regs _ none 0 []) (⟨rfl, by omega, RegsAt.nil _ _⟩ : Regs _ none 0 []) (⟨rfl, by omega, RegsAt.nil _ _⟩ : Regs _ none 0 []) (⟨rfl, by omega, RegsAt.nil _ _⟩ : Regs _ none 0 [])).mono ?_
  rintro e w7 ⟨rfl, hb7⟩
  replace hmw := hmw.below hb7
  replace hrw := hrw.below hb7
  replace kM := kM.below hb7
  replace kR := kR.below hb7
  replace p0 := keep p0 hb7
  replace p1 := keep p1 hb7
  replace k0 := keep k0 hb7
  replace k1 := keep k1 hb7
  have hB7 := hB6.trans (hb7.mono hB6.size)
  clear x0 x1 y0 y1 hb7 hB6
  go_wp2_with fail
  go_at_call 12
  refine (sameBoot_eq _ km mo kr ro mn kc mc rn kd rc M R kM hmw kR hrw).mono ?_
  rintro e w8 ⟨rfl, hb8⟩
  go_wp2
  go_ret
  exact ⟨rfl, hB7.trans (hb8.mono hB7.size)⟩

set_option maxHeartbeats 8000000 in
set_option maxRecDepth 4000 in
theorem bootAllocs_ok (mo : Option Addr) (mn mc : Nat) (M : List (Int × Int)) (ro : Option Addr) (rn rc : Nat) (R : List (Int × Int)) (sz al lo hi : Nat) (down : Bool) (w : World) (hm : IsRegs w mo mn mc M) (hr : IsRegs w ro rn rc R) (hM : MayP M ∧ MayP R) (h1 : 1 ≤ sz) (h2 : sz ≤ 256) (h3 : 1 ≤ al) (h4 : al ≤ 256) (h5 : lo ≤ hi) (h6 : hi ≤ 256) (B : Int) (hB : Hid (bestK (freeH M R) sz al lo down (places sz lo hi) = B)) (hn : 0 ≤ B) (hl : (drawnAll (chH B sz true R)).length ≤ 40) :
    Calls Try.prog 8 #[.agg #[.slice mo mn mc, .slice ro rn rc], .int .i64 sz, .int .i64 al, .int .i64 lo, .int .i64 hi, .bool down] w fun e w' => e = .returned (.bool true) ∧ Below w.heap.size w w' := by
  obtain ⟨D, hD⟩ : ∃ D, drawnAll (chH B sz true R) = D := ⟨_, rfl⟩
  have HD : Hid (drawnAll (chH B sz true R) = D) := hD
  clear hD
  have hb2 := below_box w (.cells #[.slice mo mn mc, .slice ro rn rc] 24)
  have tM := hm.top
  have tR := hr.top
  have hmI := hm.below hb2
  have hrI := hr.below hb2
  have p0 : (w.alloc (.cells #[.slice mo mn mc, .slice ro rn rc] 24)).cell? ⟨w.heap.size, 0, none⟩ = some (.slice mo mn mc) := by go_simp
  have p1 : (w.alloc (.cells #[.slice mo mn mc, .slice ro rn rc] 24)).cell? ⟨w.heap.size, 1, none⟩ = some (.slice ro rn rc) := by go_simp
  go_enter Try.func8, Try.ntmps8
  go_wp2_with fail
  go_at_call 9
  refine (boots_any _ mo mn mc M ro rn rc R hmI hrI).mono ?_
  rintro e w1 ⟨km, kc, kr, kd, rfl, kM, kR, hb1⟩
  have hmw := hmI.regs.below hb1
  have hrw := hrI.regs.below hb1
  have hB1 := hb2.trans (hb1.mono hb2.size)
  replace p0 := keep p0 hb1
  replace p1 := keep p1 hb1
  have hbk := below_box w1 (.cells #[.slice km mn kc, .slice kr rn kd] 24)
  have k0 : (w1.alloc (.cells #[.slice km mn kc, .slice kr rn kd] 24)).cell? ⟨w1.heap.size, 0, none⟩ = some (.slice km mn kc) := by go_simp
  have k1 : (w1.alloc (.cells #[.slice km mn kc, .slice kr rn kd] 24)).cell? ⟨w1.heap.size, 1, none⟩ = some (.slice kr rn kd) := by go_simp
  replace kM := kM.below hbk
  replace kR := kR.below hbk
  replace hmw := hmw.below hbk
  replace hrw := hrw.below hbk
  replace p0 := keep p0 hbk
  replace p1 := keep p1 hbk
  have hB2 := hB1.trans (hbk.mono hB1.size)
  clear hm hr hmI hrI hb1 hb2 hB1 hbk
  go_wp2_with fail
  go_at_call 19
  have HC := cAlloc_main _ km mn kc M kr rn kd R sz al lo hi down kM kR hM h1 h2 h3 h4 h5 h6
  rw [hB.out] at HC
  refine HC.mono ?_
  rintro e w3 ⟨HE, hb3⟩
  have he : ∃ m1 n1 c1 r1 n2 c2, e = .returned (.tuple #[.agg #[.slice m1 n1 c1, .slice r1 n2 c2], .int .i64 B, .int .i64 0]) ∧ Regs w3 m1 n1 M ∧ Regs w3 r1 n2 D := by
    rcases HE with ⟨g, _⟩ | ⟨_, g, _⟩ | ⟨_, _, m1, n1, c1, r1, n2, c2, g1, g2, g3, _⟩
    · omega
    · omega
    · rw [HD.out] at g3
      exact ⟨m1, n1, c1, r1, n2, c2, g1, g2, g3⟩
  obtain ⟨xm, xn, xc, xr, xo, xd, rfl, xM, xR⟩ := he
  clear HC HE
  replace hmw := hmw.below hb3
  replace hrw := hrw.below hb3
  replace kM := kM.below hb3
  replace kR := kR.below hb3
  replace p0 := keep p0 hb3
  replace p1 := keep p1 hb3
  replace k0 := keep k0 hb3
  replace k1 := keep k1 hb3
  have hB3 := hB2.trans (hb3.mono hB2.size)
  have hbx := below_box w3 (.cells #[.slice xm xn xc, .slice xr xo xd] 24)
  have x0 : (w3.alloc (.cells #[.slice xm xn xc, .slice xr xo xd] 24)).cell? ⟨w3.heap.size, 0, none⟩ = some (.slice xm xn xc) := by go_simp
  have x1 : (w3.alloc (.cells #[.slice xm xn xc, .slice xr xo xd] 24)).cell? ⟨w3.heap.size, 1, none⟩ = some (.slice xr xo xd) := by go_simp
  replace hmw := hmw.below hbx
  replace hrw := hrw.below hbx
  replace kM := kM.below hbx
  replace kR := kR.below hbx
  replace p0 := keep p0 hbx
  replace p1 := keep p1 hbx
  replace k0 := keep k0 hbx
  replace k1 := keep k1 hbx
  replace xM := xM.below hbx
  replace xR := xR.below hbx
  have hB4 := hB3.trans (hbx.mono hB3.size)
  clear hb3 hB2 hB3 hbx
  go_wp2_with fail
  go_at_call 20
  have HC := bootAlloc_main _ mo mn mc M ro rn rc R sz al lo hi down hmw hrw hM h1 h2 h3 h4 h5 h6
  rw [hB.out] at HC
  refine HC.mono ?_
  rintro e w5 ⟨HE, hb5⟩
  have he : ∃ m1 n1 c1 r1 n2 c2, e = .returned (.tuple #[.agg #[.slice m1 n1 c1, .slice r1 n2 c2], .int .i64 B, .int .i64 0]) ∧ Regs w5 m1 n1 M ∧ Regs w5 r1 n2 D := by
    rcases HE with ⟨g, _⟩ | ⟨_, g, _⟩ | ⟨_, _, m1, n1, c1, r1, n2, c2, g1, g2, g3, _⟩
    · omega
    · omega
    · rw [HD.out] at g3
      exact ⟨m1, n1, c1, r1, n2, c2, g1, g2, g3⟩
  obtain ⟨ym, yn, yc, yr, yo, yd, rfl, yM, yR⟩ := he
  clear HC HE
  replace xM := xM.below hb5
  replace xR := xR.below hb5
  obtain rfl : xn = yn := xM.len.symm.trans yM.len
  obtain rfl : xo = yo := xR.len.symm.trans yR.len
  replace hmw := hmw.below hb5
  replace hrw := hrw.below hb5
  replace kM := kM.below hb5
  replace kR := kR.below hb5
  replace p0 := keep p0 hb5
  replace p1 := keep p1 hb5
  replace k0 := keep k0 hb5
  replace k1 := keep k1 hb5
  replace x0 := keep x0 hb5
  replace x1 := keep x1 hb5
  have hB5 := hB4.trans (hb5.mono hB4.size)
  have hby := below_box w5 (.cells #[.slice ym xn yc, .slice yr xo yd] 24)
  have y0 : (w5.alloc (.cells #[.slice ym xn yc, .slice yr xo yd] 24)).cell? ⟨w5.heap.size, 0, none⟩ = some (.slice ym xn yc) := by go_simp
  have y1 : (w5.alloc (.cells #[.slice ym xn yc, .slice yr xo yd] 24)).cell? ⟨w5.heap.size, 1, none⟩ = some (.slice yr xo yd) := by go_simp
  replace hmw := hmw.below hby
  replace hrw := hrw.below hby
  replace kM := kM.below hby
  replace kR := kR.below hby
  replace p0 := keep p0 hby
  replace p1 := keep p1 hby
  replace k0 := keep k0 hby
  replace k1 := keep k1 hby
  replace x0 := keep x0 hby
  replace x1 := keep x1 hby
  replace xM := xM.below hby
  replace xR := xR.below hby
  replace yM := yM.below hby
  replace yR := yR.below hby
  have hB6 := hB5.trans (hby.mono hB5.size)
  clear hb5 hB4 hB5 hby
  go_wp2_with fail
  go_at_call 12
  refine (sameBoot_eq _ xm ym xr yr xn xc yc xo xd yd M D xM yM xR yR).mono ?_
  rintro e w7 ⟨rfl, hb7⟩
  replace hmw := hmw.below hb7
  replace hrw := hrw.below hb7
  replace kM := kM.below hb7
  replace kR := kR.below hb7
  replace p0 := keep p0 hb7
  replace p1 := keep p1 hb7
  replace k0 := keep k0 hb7
  replace k1 := keep k1 hb7
  have hB7 := hB6.trans (hb7.mono hB6.size)
  clear x0 x1 y0 y1 hb7 hB6
  go_wp2_with fail
  go_at_call 12
  refine (sameBoot_eq _ km mo kr ro mn kc mc rn kd rc M R kM hmw kR hrw).mono ?_
  rintro e w8 ⟨rfl, hb8⟩
  go_wp2
  go_ret
  exact ⟨rfl, hB7.trans (hb8.mono hB7.size)⟩

theorem bootAllocs_walk (mo : Option Addr) (mn mc : Nat) (M : List (Int × Int)) (ro : Option Addr) (rn rc : Nat) (R : List (Int × Int)) (sz al lo hi : Int) (down : Bool) (w : World) (hm : IsRegs w mo mn mc M) (hr : IsRegs w ro rn rc R) (_w1 : (Lit.int .i64 sz).wf = true) (_w2 : (Lit.int .i64 al).wf = true) (_w3 : (Lit.int .i64 lo).wf = true) (_w4 : (Lit.int .i64 hi).wf = true) :
    Calls Try.prog 8 #[.agg #[.slice mo mn mc, .slice ro rn rc], .int .i64 sz, .int .i64 al, .int .i64 lo, .int .i64 hi, .bool down] w fun e w' => e = .returned (.bool true) ∧ Below w.heap.size w w' := by
  by_cases hM : MayP M ∧ MayP R
  · by_cases h : (inB sz 1 256 && inB al 1 256 && inB lo 0 256 && inB hi lo 256) = true
    · simp only [Bool.and_eq_true, inB, decide_eq_true_eq] at h
      obtain ⟨⟨⟨⟨a1, a2⟩, a3, a4⟩, a5, a6⟩, a7, a8⟩ := h
      obtain ⟨sz, rfl⟩ : ∃ k : Nat, sz = k := ⟨sz.toNat, by omega⟩
      obtain ⟨al, rfl⟩ : ∃ k : Nat, al = k := ⟨al.toNat, by omega⟩
      obtain ⟨lo, rfl⟩ : ∃ k : Nat, lo = k := ⟨lo.toNat, by omega⟩
      obtain ⟨hi, rfl⟩ : ∃ k : Nat, hi = k := ⟨hi.toNat, by omega⟩
      by_cases hn : bestK (freeH M R) sz al lo down (places sz lo hi) < 0
      · exact bootAllocs_room mo mn mc M ro rn rc R sz al lo hi down w hm hr hM (by omega) (by omega) (by omega) (by omega) (by omega) (by omega) _ rfl hn
      · by_cases hl : (drawnAll (chH (bestK (freeH M R) sz al lo down (places sz lo hi)) sz true R)).length ≤ 40
        · exact bootAllocs_ok mo mn mc M ro rn rc R sz al lo hi down w hm hr hM (by omega) (by omega) (by omega) (by omega) (by omega) (by omega) _ rfl (by omega) hl
        · exact bootAllocs_size mo mn mc M ro rn rc R sz al lo hi down w hm hr hM (by omega) (by omega) (by omega) (by omega) (by omega) (by omega) _ rfl (by omega) (by omega)
    · exact bootAllocs_range mo mn mc M ro rn rc R sz al lo hi down w hm hr hM (by simpa using h)
  · exact bootAllocs_state mo mn mc M ro rn rc R sz al lo hi down w hm hr hM

end Go.Proofs.Ytfogdgnlbgoakac
