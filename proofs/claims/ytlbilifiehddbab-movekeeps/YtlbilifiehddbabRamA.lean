/-
  OWN TEXT. Contracts of ram.isAddress and ram.clone.
-/
import Derived.Test.YtlbilifiehddbabBase
namespace Go.Proofs.Ytlbilifiehddbab
open Go Go.RowKit Go.Proofs.Ytlbilifiehddbab.Kit

theorem isAddr_any (ao : Option Addr) (len cap : Nat) (i : Int) (w : World) :
    Calls Try.prog 16 #[.slice ao len cap, .int .i64 i] w fun e w' => e = .returned (.bool (addrB len i)) ∧ w = w' := by
  by_cases h1 : 0 ≤ i
  · by_cases h2 : i < len
    · have hI : Hid (addrB len i = true) := addrB_t ⟨h1, h2⟩
      go_enter Try.func16, Try.ntmps16
      go_wp2
      go_ret
      exact ⟨ret_bool hI.out.symm, rfl⟩
    · have hI : Hid (addrB len i = false) := addrB_f (by omega)
      go_enter Try.func16, Try.ntmps16
      go_wp2
      go_ret
      exact ⟨ret_bool hI.out.symm, rfl⟩
  · have hI : Hid (addrB len i = false) := addrB_f (by omega)
    go_enter Try.func16, Try.ntmps16
    go_wp2
    go_ret
    exact ⟨ret_bool hI.out.symm, rfl⟩

set_option maxHeartbeats 400000 in
theorem clone_any (w : World) (ao : Option Addr) (n cap : Nat) (xs : List Int) (hn : xs.length = n) (hr : n * 8 ≤ 140737488351232) (hx : IntsAt w ao xs) :
    Calls Try.prog 17 #[.slice ao n cap] w fun e w' => ∃ g, e = .returned (.slice (some ⟨g, 0, none⟩) n n) ∧
      w'.ownsRow w.heap.size 3 1 (.slice (some ⟨g, 0, none⟩) n n) n (vals xs) ∧ Below w.heap.size w w' := by
  obtain ⟨i0, hi, hz0, hz1, hz2⟩ := info_parts info_int
  have hml : n ≤ maxLen := by unfold maxLen; omega
  go_enter Try.func17, Try.ntmps17
  go_wp2_with (at_make; refine wpList_make_full _ rfl (.tmp 5) (.tmp 5) 22 rfl w.heap.size 3 i0 (.int .i64 0) 1 Try.underlying22 hi hz0 hz1 .i64 .i64 _ _ n rfl rfl rfl rfl ?b2 hml (Nat.le_refl _) ?_)
  case b2 => rw [hz2]; omega
  intro w1 hown hg1
  have hb1 : Below w.heap.size w w1 := (Below.refl _ _).grown hg1 (Nat.le_refl _) (by simp)
  obtain ⟨zs, hfull, hzl⟩ : ∃ zs : List Value, w1.heap[w.heap.size]? = some (.cells zs.toArray 3 (0, 0)) ∧ zs.length = n := ⟨_, owns_full hown, by simpa using hown.1⟩
  obtain ⟨cs, hcs⟩ : ∃ cs, cs = vals xs := ⟨_, rfl⟩
  have hcl : cs.length = n := by rw [hcs, length_vals]; exact hn
  have hd1 : cs.length = Nat.min n n := by rw [hcl]; simp
  have hd3 : 0 + cs.length ≤ zs.length := by omega
  have hpos : 0 < cs.length → some (⟨w.heap.size, 0, none⟩ : Addr) = some ⟨w.heap.size, 0, none⟩ ∧ ∃ ad, ao = some ad ∧ ∀ j v, cs[j]? = some v → w1.cell? (ad.add j) = some v := by
    intro h0
    rw [hcs]
    exact ⟨rfl, src_of (hx.below hb1) (by omega)⟩
  have hone : ∀ v ∈ cs, v.oneCell' = true := by rw [hcs]; exact vals_oneCell _
  have HE : Hid (cs = vals xs) := hcs
  clear hcs hown hg1 hx
  go_wp2_with (refine wpList_copy_splice rfl (.tmp 7) (.tmp 8) 22 22 rfl 3 Try.underlying22 size_int _ _ _ _ _ _ rfl rfl w.heap.size 0 zs 3 hfull cs hd1 hpos hd3 hone w.heap.size w hb1 (Nat.le_refl _) ?_)
  intro w2 hg2 hb2
  go_wp2
  go_ret
  refine ⟨_, rfl, ?_, hb2⟩
  have h2 := hg2.out
  rw [splice_all (by omega)] at h2
  rw [← HE.out]
  exact owns_of_heap h2 (Nat.le_refl _) hcl hml

end Go.Proofs.Ytlbilifiehddbab
