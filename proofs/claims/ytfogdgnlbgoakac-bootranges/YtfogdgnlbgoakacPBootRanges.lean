/-
  BootRanges: for every input the call of the law returns true, and every argument reads afterwards as it read before; no condition.
-/
import Derived.Test.YtfogdgnlbgoakacRows
import Derived.Test.YtfogdgnlbgoakacArgs
import Derived.Test.YtfogdgnlbgoakacWBootRanges
import Derived.Test.YtfogdgnlbgoakacRArgs
namespace Go.Proofs.Ytfogdgnlbgoakac.bootRangesShell
open Go.ChangeShapes Go.WideShapes Go.ChangeAt Go.RowKit Go.Proofs.Ytfogdgnlbgoakac.Kit
set_option linter.unusedVariables false

theorem own : ownKnob Try.prog.godebug = none := by kernel_rfl
theorem laidOut : laidOutB Try.prog = true := by kernel_rfl
theorem cellsR : Try.prog.cellsOf 26 = 2 := by kernel_rfl
theorem cells1 : Try.prog.cellsOf 3 = 1 := by kernel_rfl
theorem bytesR : Try.prog.bytesOf 26 = 16 := by kernel_rfl
theorem cellsB : Try.prog.cellsOf 24 = 2 := by kernel_rfl

set_option maxRecDepth 100000 in
theorem lifted (os : Os) (started : os.Started) (H : Type) (enc : TypeId × Value → H) :
    ReturnsInHanded {} Try.checked os 7 .any (Rows.bootRangesSpec.pre6 enc Try.prog Try.f7 Rows.bootRangesRow.domain false) (Rows.bootRangesSpec.post enc Try.prog Try.f7 false true false false) := by
  refine returnsInHanded_of_change_sized (C := Try.checked) own started (by kernel_rfl) Try.func7
    (ChangeSpec.witness6 (enc := enc) (C := Try.checked) false ⟨#[], #[.agg #[.slice none 0 0, .slice none 0 0]], []⟩ 8 (by kernel_rfl) (by kernel_rfl) (by kernel_rfl) (by kernel_rfl)) ?_
  intro W base args ds gs before hval0 hW hcnd hsz0 _
  have hsz : (DataW.weightsEach Try.prog (Try.f7.params.toList ++ Rows.bootRangesSpec.plain.varTypes Try.prog) (ds ++ gs)).all (· ≤ reachBytes) = true := hsz0
  clear hsz0
  have hval : ∀ (j : Nat) t v, Try.f7.params[j]? = some t → args[j]? = some v → Value.okWide Try.prog W .any base t v := hval0
  have hW' := hW
  obtain ⟨p, q, hA0, hV, rfl, hfz, hnd⟩ := hW
  have hA : DataW.TrodAll enc Try.prog W 0 (fun _ => true) true Try.f7.params.toList args.toList ds p := hA0
  rw [Try.params7] at hA hval hsz
  obtain ⟨v0, vs0, d0, ds0, p0, q0, hargs, rfl, rfl, h0, r0⟩ := trodAll_cons hA
  obtain ⟨rfl, rfl, rfl⟩ := trodAll_nil r0
  obtain rfl : args = #[v0] := by cases args; simp_all
  obtain ⟨rfl, rfl⟩ := trodVars_none hV
  have k0 := h0
  have lt0 : ∀ x ∈ p0, x.block < W.heap.size := by obtain ⟨m, hm⟩ := k0; exact DataW.trod_lt m _ _ _ hm
  obtain ⟨mo0, mn0, mc0, M0, ro0, rn0, rc0, R0, rfl, w0, w0'⟩ := open_boot_arg Try.underlying24 (by kernel_rfl) cellsB rfl rfl Try.underlying22 Try.underlying26 cellsR bytesR rfl rfl cells1 cells1 Try.underlying3 Try.underlying3 (hval 0 24 v0 rfl rfl) h0 (sized_arg hsz (j := 0) rfl rfl)
  clear hA0 hval0
  refine (bootRanges_walk mo0 mn0 mc0 M0 ro0 rn0 rc0 R0 W w0 w0').mono fun e W' ⟨he, bel⟩ => ?_
  subst he
  exact ⟨_, rfl, _, _, _, [], _, [], hW', trodAll_mk1 (shut_bool Try.underlying4 _), (trodAll_cons_mk (Below.trod laidOut (by kernel_rfl) (of_decide_eq_true (by kernel_rfl)) k0 bel lt0) trodAll_mk0), rfl, bel.frame _, fun h => by cases h⟩

theorem over : Rows.bootRangesRow.holds Try.pinned (OpenSpec.ofChange Rows.bootRangesSpec) :=
  OpenClaim.holds_of_wide 7 Try.f7 rfl rfl rfl rfl rfl rfl rfl ⟨rfl, rfl, rfl, rfl, rfl⟩ rfl rfl rfl rfl rfl (by kernel_rfl) Try.func7 (by kernel_rfl)
    (of_decide_eq_true (by kernel_rfl)) (by unfold Func.isWrapper; first | (rw [if_pos (by decide +kernel)]; kernel_rfl) | (rw [if_neg (by decide +kernel)]; exact ⟨rfl, rfl⟩))
    (fun os started H enc _ => lifted os started H enc)

end Go.Proofs.Ytfogdgnlbgoakac.bootRangesShell

namespace Go.Proofs.Ytfogdgnlbgoakac
/-- The statement. -/
theorem bootRanges_holds : Rows.BootRangesSaid := bootRangesShell.over
#print axioms bootRanges_holds
end Go.Proofs.Ytfogdgnlbgoakac
