/-
  OWN TEXT. Contract of ram.areThere.
-/
import Derived.Test.YtlbilifiehddbabBase
namespace Go.Proofs.Ytlbilifiehddbab
open Go Go.RowKit Go.Proofs.Ytlbilifiehddbab.Kit

theorem are_any (ao : Option Addr) (len cap : Nat) (i n : Int) (hr : len * 8 ≤ 140737488351232) (h1 : 1 ≤ n) (h2 : n ≤ 1152921504606846976) (w : World) :
    Calls Try.prog 18 #[.slice ao len cap, .int .i64 i, .int .i64 n] w fun e w' => e = .returned (.bool (thereB len i n)) ∧ w = w' := by
  have h0 : (n == 0) = false := by simp; omega
  by_cases h3 : 0 ≤ i
  · by_cases h4 : i ≤ len - n
    · have hI : Hid (thereB len i n = true) := thereB_t (by omega)
      go_enter Try.func18, Try.ntmps18
      go_wp2
      go_ret
      exact ⟨ret_bool hI.out.symm, rfl⟩
    · have hI : Hid (thereB len i n = false) := thereB_f (by omega)
      go_enter Try.func18, Try.ntmps18
      go_wp2
      go_ret
      exact ⟨ret_bool hI.out.symm, rfl⟩
  · have hI : Hid (thereB len i n = false) := thereB_f (by omega)
    go_enter Try.func18, Try.ntmps18
    go_wp2
    go_ret
    exact ⟨ret_bool hI.out.symm, rfl⟩

end Go.Proofs.Ytlbilifiehddbab
