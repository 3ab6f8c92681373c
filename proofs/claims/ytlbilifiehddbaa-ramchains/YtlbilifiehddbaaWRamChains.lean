/-
  OWN TEXT. The walk of the law RamChains: it returns true and writes nothing that was there.
-/
import Derived.Test.YtlbilifiehddbaaRamC
import Derived.Test.YtlbilifiehddbaaRefC
import Derived.Test.YtlbilifiehddbaaSame
namespace Go.Proofs.Ytlbilifiehddbaa
open Go Go.RowKit Go.Proofs.Ytlbilifiehddbaa.Kit

set_option maxHeartbeats 1000000 in
theorem ramChains_walk (ao : Option Addr) (len cap : Nat) (xs : List Int) (i s n : Int) (w : World) (h : IsInts w ao len cap xs) (_wf : (Lit.int .i64 i).wf = true) (_wf' : (Lit.int .i64 s).wf = true) (_wf'' : (Lit.int .i64 n).wf = true) :
    Calls Try.prog 6 #[.slice ao len cap, .int .i64 i, .int .i64 s, .int .i64 n] w fun e w' => e = .returned (.bool true) ∧ Below w.heap.size w w' := by
  have h' := h
  obtain ⟨hn, hle, hr, _, hx⟩ := h'
  have hr' : len * 8 ≤ 140737488351232 := by omega
  clear _wf _wf' _wf''
  go_enter Try.func6, Try.ntmps6
  go_wp2_with fail
  go_at_call 12
  refine (copyI_any w ao len cap xs h).mono ?_
  rintro e w1 ⟨bo, c, rfl, hown1, hb1⟩
  have i1 := ints_of_owns hown1
  have hx1 := hx.below hb1
  by_cases hA : 1 ≤ s ∧ s ≤ 64 ∧ 1 ≤ n ∧ n ≤ len
  · obtain ⟨s, rfl⟩ : ∃ k : Nat, s = k := ⟨s.toNat, by omega⟩
    obtain ⟨n, rfl⟩ : ∃ k : Nat, n = k := ⟨n.toNat, by omega⟩
    have h1 : 1 ≤ s := by omega
    have h2 : s ≤ 64 := by omega
    have h3 : 1 ≤ n := by omega
    have h4 : n ≤ len := by omega
    obtain ⟨q, hq⟩ : ∃ q, q = s * n := ⟨_, rfl⟩
    have hqI : (s : Int) * (n : Int) = q := by rw [hq]; simp
    have HQ : Hid (q = s * n) := hq
    clear hA hq
    by_cases hB : 0 ≤ i ∧ i + q ≤ len
    · obtain ⟨a, rfl⟩ : ∃ k : Nat, i = k := ⟨i.toNat, by omega⟩
      have F : Fits len a s n q (s * (n - 1)) := by have := HQ.out; subst this; exact fits_mk h1 h2 h3 h4 (by omega)
      obtain ⟨p, hp⟩ : ∃ p, p = s * (n - 1) := ⟨_, rfl⟩
      rw [← hp] at F
      have HP : Hid (p = s * (n - 1)) := hp
      clear hp hqI hB
      go_wp2_with fail
      go_at_call 15
      refine (chain_yes w1 bo len c a s n q p xs hn hr' i1 F HP).mono ?_
      rintro e w2 ⟨b2, c2, rfl, hown2, hb2⟩
      have hx2 := hx1.below hb2
      have k2 := i1.below hb2
      go_wp2_with fail
      go_at_call 16
      refine (chainOf_yes w2 ao len cap a s n q p xs hn hr' hx2 F HP HQ).mono ?_
      rintro e w3 ⟨b3, c3, rfl, hown3, hb3⟩
      have j2 := (ints_of_owns hown2).below hb3
      have j3 := ints_of_owns hown3
      have hl2 := owns_len hown2
      go_wp2_with fail
      go_at_call 9
      refine (same_eq w3 _ _ len _ _ _ hl2 hr' j2 j3).mono ?_
      rintro e w4 ⟨rfl, d, rfl⟩
      have k4 := (k2.below hb3).below (below_drawn d)
      have x4 := (hx2.below hb3).below (below_drawn d)
      go_wp2_with fail
      go_at_call 9
      refine (same_eq _ _ _ len _ _ _ hn hr' k4 x4).mono ?_
      rintro e w5 ⟨rfl, d5, rfl⟩
      go_wp2
      go_ret
      exact ⟨rfl, hb1.trans ((hb2.mono hb1.size).trans ((hb3.mono (Nat.le_trans hb1.size hb2.size)).trans (below_drewN (Below.refl _ _) _)))⟩
    · go_wp2_with fail
      go_at_call 15
      refine (chain_no2 _ _ _ _ _ s n q hr' h1 h2 h3 h4 hqI hB).mono ?_
      rintro e w' ⟨rfl, rfl⟩
      go_wp2_with fail
      go_at_call 16
      refine (chainOf_no2 _ _ _ _ _ s n q hr' h1 h2 h3 h4 hqI hB).mono ?_
      rintro e w' ⟨rfl, rfl⟩
      go_wp2_with fail
      go_at_call 9
      refine (same_eq _ none none 0 0 0 [] rfl (by omega) (IntsAt.nil _ _) (IntsAt.nil _ _)).mono ?_
      rintro e w' ⟨rfl, d, rfl⟩
      have k4 := i1.below (below_drawn d)
      have x4 := hx1.below (below_drawn d)
      go_wp2_with fail
      go_at_call 9
      refine (same_eq _ _ _ len _ _ _ hn hr' k4 x4).mono ?_
      rintro e w5 ⟨rfl, d5, rfl⟩
      go_wp2
      go_ret
      exact ⟨rfl, hb1.trans (below_drewN (Below.refl _ _) _)⟩
  · go_wp2_with fail
    go_at_call 15
    refine (chain_no1 _ _ _ _ _ _ _ hA).mono ?_
    rintro e w' ⟨rfl, rfl⟩
    go_wp2_with fail
    go_at_call 16
    refine (chainOf_no1 _ _ _ _ _ _ _ hA).mono ?_
    rintro e w' ⟨rfl, rfl⟩
    go_wp2_with fail
    go_at_call 9
    refine (same_eq _ none none 0 0 0 [] rfl (by omega) (IntsAt.nil _ _) (IntsAt.nil _ _)).mono ?_
    rintro e w' ⟨rfl, d, rfl⟩
    have k4 := i1.below (below_drawn d)
    have x4 := hx1.below (below_drawn d)
    go_wp2_with fail
    go_at_call 9
    refine (same_eq _ _ _ len _ _ _ hn hr' k4 x4).mono ?_
    rintro e w5 ⟨rfl, d5, rfl⟩
    go_wp2
    go_ret
    exact ⟨rfl, hb1.trans (below_drewN (Below.refl _ _) _)⟩

end Go.Proofs.Ytlbilifiehddbaa
