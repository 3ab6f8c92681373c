/-
  OWN TEXT. Closed facts on the types of a heap.
-/
import Derived.Test.YtmpalonhckafjaaZBase
import Derived.Test.YtmpalonhckafjaaHArgs
namespace Go.Proofs.Ytmpalonhckafjaa
open Go Go.RowKit Go.Proofs.Ytmpalonhckafjaa.Kit

theorem info_zone : (Try.prog.info? 44).map (fun i => (i.zero, i.size, i.bytes)) = some (some (.agg #[.int .i64 0, .int .i64 0, .slice none 0 0, .slice none 0 0]), 4, 64) := by kernel_rfl
theorem info_list : (Try.prog.info? 57).map (fun i => (i.zero, i.size, i.bytes)) = some (some (.agg #[.int .i64 0, .int .i64 0, .int .i64 0, .slice none 0 0]), 4, 48) := by kernel_rfl
theorem size_zone : (Try.prog.info? 44).map (·.size) = some 4 := by kernel_rfl
theorem size_list : (Try.prog.info? 57).map (·.size) = some 4 := by kernel_rfl

theorem heapTypes : HeapTypes Try.prog 28 23 44 26 63 24 3 25 57 where
  heap := ⟨_, _, _, _, _, Try.underlying28, by kernel_rfl, rfl, rfl, rfl, rfl, rfl⟩
  hc := by kernel_rfl
  zones := Try.underlying23
  zone := ⟨_, _, _, _, Try.underlying44, by kernel_rfl, rfl, rfl, rfl, rfl⟩
  zcell := by kernel_rfl
  zbytes := by kernel_rfl
  blocks := Try.underlying26
  block := ⟨_, _, _, Try.underlying63, by kernel_rfl, rfl, rfl, rfl⟩
  bcell := by kernel_rfl
  bbytes := by kernel_rfl
  ints := Try.underlying24
  int := Try.underlying3
  icell := by kernel_rfl
  ibytes := by kernel_rfl
  lists := Try.underlying25
  list := ⟨_, _, _, _, Try.underlying57, by kernel_rfl, rfl, rfl, rfl, rfl⟩
  lcell := by kernel_rfl
  lbytes := by kernel_rfl

end Go.Proofs.Ytmpalonhckafjaa
