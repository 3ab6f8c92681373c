/-
  OWN TEXT. Contract of slices.Insert at one block: all ways.
-/
import Derived.Test.YtamkgakhgfhmjaeBIns2
import Derived.Test.YtamkgakhgfhmjaeBIns3
namespace Go.Proofs.Ytamkgakhgfhmjae
open Go Go.RowKit Go.Proofs.Ytamkgakhgfhmjae.Kit

theorem bIns_any (w : World) (base g N cap i gv : Nat) (l : List Bk) (b : Bk) (hi : i ≤ N) (hN : N ≤ 300) (own : w.ownsRow base 39 3 (.slice (some ⟨g, 0, none⟩) N cap) N (bvals l)) (hv : w.heap[gv]? = some (.cells #[.int .i64 b.a, .int .i64 b.o, .int .i64 b.t] 39 (0, 0))) (hne : gv ≠ g) :
    Calls Try.prog 46 #[.slice (some ⟨g, 0, none⟩) N cap, .int .i64 i, .slice (some ⟨gv, 0, none⟩) 1 1] w fun e w' => RetRow w w' base g (N + 1) (insB l i b) e := by
  have := owns_cap own
  by_cases h1 : i = N
  · exact bIns_end w base g N cap i gv l b h1 hN own hv hne
  · by_cases h2 : N + 1 ≤ cap
    · exact bIns_shift w base g N cap i gv l b (by omega) hN h2 own hv hne
    · exact bIns_grow w base g N cap i gv l b (by omega) hN (by omega) own hv hne

end Go.Proofs.Ytamkgakhgfhmjae
