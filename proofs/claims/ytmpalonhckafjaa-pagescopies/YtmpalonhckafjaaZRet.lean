/-
  OWN TEXT. A zone or none is returned, and a code.
-/
import Derived.Test.YtmpalonhckafjaaZKit
namespace Go.Proofs.Ytmpalonhckafjaa.Kit
open Go Go.RowKit

/-- A zone is returned, and a code. -/
def RetAny (w' : World) (Z : Zn) (c : Int) (e : Ending) : Prop :=
  ∃ fo fn fc to_ tn tc, e = .returned (.tuple #[.agg #[.int .i64 Z.f, .int .i64 Z.t, .slice fo fn fc, .slice to_ tn tc], .int .i64 c]) ∧ ZnAt w' fo fn to_ tn Z
/-- A zone in new memory is returned. -/
def RetZ (B : Nat) (w' : World) (z : Zn) (e : Ending) : Prop :=
  ∃ fo fn fc to_ tn tc, e = .returned (.agg #[.int .i64 z.f, .int .i64 z.t, .slice fo fn fc, .slice to_ tn tc]) ∧ ZnAt w' fo fn to_ tn z ∧ Fresh B fo ∧ Fresh B to_

theorem RetZone.any {B : Nat} {w' : World} {Z : Zn} {e : Ending} (h : RetZone B w' Z e) : RetAny w' Z 0 e := by
  obtain ⟨fo, fn, fc, to_, tn, tc, he, hz, _, _⟩ := h
  exact ⟨fo, fn, fc, to_, tn, tc, he, hz⟩
theorem RetNone.any {c : Int} {w' : World} {e : Ending} (h : RetNone c e) : RetAny w' ⟨0, 0, [], []⟩ c e :=
  ⟨none, 0, 0, none, 0, 0, h, ⟨Blks.nil _, Nums.nil _⟩⟩

end Go.Proofs.Ytmpalonhckafjaa.Kit
