/-
  BuddyCopies: for every input the call of the law returns true, and every argument reads afterwards as it read before; no condition.
-/
import Derived.Test.YtamkgakhgfhmjadRows
import Derived.Test.YtamkgakhgfhmjadArgs
import Derived.Test.YtamkgakhgfhmjadWBuddyCopies
import Derived.Test.YtamkgakhgfhmjadZArgs
namespace Go.Proofs.Ytamkgakhgfhmjad.buddyCopiesShell
open Go.ChangeShapes Go.WideShapes Go.ChangeAt Go.RowKit Go.Proofs.Ytamkgakhgfhmjad.Kit
set_option linter.unusedVariables false

theorem own : ownKnob Try.prog.godebug = none := by kernel_rfl
theorem laidOut : laidOutB Try.prog = true := by kernel_rfl
theorem cellsE : Try.prog.cellsOf 3 = 1 := by kernel_rfl
theorem bytesE : Try.prog.bytesOf 3 = 8 := by kernel_rfl
theorem cellsZ : Try.prog.cellsOf 50 = 4 := by kernel_rfl
theorem cellsK : Try.prog.cellsOf 77 = 3 := by kernel_rfl
theorem bytesK : Try.prog.bytesOf 77 = 24 := by kernel_rfl

set_option maxRecDepth 100000 in
theorem lifted (os : Os) (started : os.Started) (H : Type) (enc : TypeId × Value → H) :
    ReturnsInHanded {} Try.checked os 8 .any (Rows.buddyCopiesSpec.pre6 enc Try.prog Try.f8 Rows.buddyCopiesRow.domain false) (Rows.buddyCopiesSpec.post enc Try.prog Try.f8 false true false false) := by
  refine returnsInHanded_of_change_sized (C := Try.checked) own started (by kernel_rfl) Try.func8
    (ChangeSpec.witness6 (enc := enc) (C := Try.checked) false ⟨#[], #[.agg #[.int .i64 0, .int .i64 0, .slice none 0 0, .slice none 0 0]], []⟩ 8 (by kernel_rfl) (by kernel_rfl) (by kernel_rfl) (by kernel_rfl)) ?_
  intro W base args ds gs before hval0 hW hcnd hsz0 _
  have hsz : (DataW.weightsEach Try.prog (Try.f8.params.toList ++ Rows.buddyCopiesSpec.plain.varTypes Try.prog) (ds ++ gs)).all (· ≤ reachBytes) = true := hsz0
  clear hsz0
  have hval : ∀ (j : Nat) t v, Try.f8.params[j]? = some t → args[j]? = some v → Value.okWide Try.prog W .any base t v := hval0
  have hW' := hW
  obtain ⟨p, q, hA0, hV, rfl, hfz, hnd⟩ := hW
  have hA : DataW.TrodAll enc Try.prog W 0 (fun _ => true) true Try.f8.params.toList args.toList ds p := hA0
  rw [Try.params8] at hA hval hsz
  obtain ⟨v0, vs0, d0, ds0, p0, q0, hargs, rfl, rfl, h0, r0⟩ := trodAll_cons hA
  obtain ⟨rfl, rfl, rfl⟩ := trodAll_nil r0
  obtain rfl : args = #[v0] := by cases args; simp_all
  obtain ⟨rfl, rfl⟩ := trodVars_none hV
  have k0 := h0
  have lt0 : ∀ x ∈ p0, x.block < W.heap.size := by obtain ⟨m, hm⟩ := k0; exact DataW.trod_lt m _ _ _ hm
  obtain ⟨f0, t0, fo0, fn0, fc0, to0, tn0, tc0, fr0, ty0, rfl, w0⟩ := open_zone_arg Try.underlying50 (by kernel_rfl) cellsZ rfl rfl Try.underlying47 Try.underlying77 cellsK bytesK (by kernel_rfl) Try.underlying3 Try.underlying3 Try.underlying3 Try.underlying48 Try.underlying3 cellsE bytesE Try.underlying3 Try.underlying3 (hval 0 50 v0 rfl rfl) h0 (sized_arg hsz (j := 0) rfl rfl)
  clear hA0 hval0
  refine (buddyCopies_walk f0 t0 fo0 fn0 fc0 to0 tn0 tc0 fr0 ty0 W w0).mono fun e W' ⟨he, bel⟩ => ?_
  subst he
  exact ⟨_, rfl, _, _, _, [], _, [], hW', trodAll_mk1 (shut_bool Try.underlying4 _), (trodAll_cons_mk (Below.trod laidOut (by kernel_rfl) (of_decide_eq_true (by kernel_rfl)) k0 bel lt0) trodAll_mk0), rfl, bel.frame _, fun h => by cases h⟩

theorem over : Rows.buddyCopiesRow.holds Try.pinned (OpenSpec.ofChange Rows.buddyCopiesSpec) :=
  OpenClaim.holds_of_wide 8 Try.f8 rfl rfl rfl rfl rfl rfl rfl ⟨rfl, rfl, rfl, rfl, rfl⟩ rfl rfl rfl rfl rfl (by kernel_rfl) Try.func8 (by kernel_rfl)
    (of_decide_eq_true (by kernel_rfl)) (by unfold Func.isWrapper; first | (rw [if_pos (by decide +kernel)]; kernel_rfl) | (rw [if_neg (by decide +kernel)]; exact ⟨rfl, rfl⟩))
    (fun os started H enc _ => lifted os started H enc)

end Go.Proofs.Ytamkgakhgfhmjad.buddyCopiesShell

namespace Go.Proofs.Ytamkgakhgfhmjad
/-- The statement. -/
theorem buddyCopies_holds : Rows.BuddyCopiesSaid := buddyCopiesShell.over
#print axioms buddyCopies_holds
end Go.Proofs.Ytamkgakhgfhmjad
