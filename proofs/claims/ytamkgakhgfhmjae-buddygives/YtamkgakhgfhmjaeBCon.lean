/-
  OWN TEXT. Contract of slices.ContainsFunc over blocks, whatever the closure.
-/
import Derived.Test.YtamkgakhgfhmjaeBIdx
namespace Go.Proofs.Ytamkgakhgfhmjae
open Go Go.RowKit Go.Proofs.Ytamkgakhgfhmjae.Kit

set_option maxHeartbeats 1000000 in
theorem bContains_any (w : World) (F : Nat) (caps : Array Value) (ao : Option Addr) (n cap : Nat) (l : List Bk) (g : Bk → Bool) (h : Blks w ao n l)
    (hcall : ∀ args W, (callFunc F args).run Try.prog W = .ok (.enter F args) W) (hc : HoldsB F caps l g w) :
    Calls Try.prog 40 #[.slice ao n cap, .func (.func F) #[] caps] w fun e w' => e = .returned (.bool (l.any g)) ∧ Below w.heap.size w w' := by
  go_enter Try.func40, Try.ntmps40
  go_wp2_with fail
  go_at_call 44
  refine (bIndex_any w F caps ao n cap l g h hcall hc).mono ?_
  rintro e w1 ⟨hf, hb⟩
  rcases hf with ⟨k, hk, rfl, hg, _⟩ | ⟨rfl, hg⟩
  · have HF : Hid (l.any g = true) := any_of_found hk hg
    clear hg hc
    go_wp2
    go_ret
    exact ⟨ret_bool HF.out.symm, hb⟩
  · have HF : Hid (l.any g = false) := any_of_none hg
    clear hg hc
    go_wp2
    go_ret
    exact ⟨ret_bool HF.out.symm, hb⟩

end Go.Proofs.Ytamkgakhgfhmjae
