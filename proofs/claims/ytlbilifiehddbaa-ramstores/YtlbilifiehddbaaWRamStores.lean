/-
  OWN TEXT. The walk of the law RamStores: it returns true and writes nothing that was there.
-/
import Derived.Test.YtlbilifiehddbaaRamS
import Derived.Test.YtlbilifiehddbaaRefS
import Derived.Test.YtlbilifiehddbaaSame
namespace Go.Proofs.Ytlbilifiehddbaa
open Go Go.RowKit Go.Proofs.Ytlbilifiehddbaa.Kit

theorem ramStores_walk (ao : Option Addr) (n cap : Nat) (xs : List Int) (i v : Int) (w : World) (h : IsInts w ao n cap xs) (_wf : (Lit.int .i64 i).wf = true) (_wf' : (Lit.int .i64 v).wf = true) :
    Calls Try.prog 5 #[.slice ao n cap, .int .i64 i, .int .i64 v] w fun e w' => e = .returned (.bool true) ∧ Below w.heap.size w w' := by
  have h' := h
  obtain ⟨hn, hle, hr, _, hx⟩ := h'
  have hr' : n * 8 ≤ 140737488351232 := by omega
  go_enter Try.func5, Try.ntmps5
  go_wp2_with fail
  go_at_call 12
  refine (copyI_any w ao n cap xs h).mono ?_
  rintro e w1 ⟨bo, c, rfl, hown1, hb1⟩
  have i1 := ints_of_owns hown1
  by_cases hi : 0 ≤ i ∧ i < n
  · obtain ⟨k, rfl⟩ : ∃ k : Nat, i = k := ⟨i.toNat, by omega⟩
    have hk : k < n := by omega
    clear hi
    go_wp2_with fail
    go_at_call 13
    refine (store_yes w1 bo n c k v xs hn hr' hk i1).mono ?_
    rintro e w2 ⟨b2, c2, rfl, hown2, hb2⟩
    have hx2 := (hx.below hb1).below hb2
    have k2 := i1.below hb2
    go_wp2_with fail
    go_at_call 14
    refine (storeOf_yes w2 ao n cap k v xs hn hr' hk hx2).mono ?_
    rintro e w3 ⟨b3, c3, rfl, hown3, hb3⟩
    have j2 := (ints_of_owns hown2).below hb3
    have j3 := ints_of_owns hown3
    have hl2 := owns_len hown2
    go_wp2_with fail
    go_at_call 9
    refine (same_eq w3 _ _ n _ _ _ hl2 hr' j2 j3).mono ?_
    rintro e w4 ⟨rfl, d, rfl⟩
    have k4 := (k2.below hb3).below (below_drawn d)
    have x4 := (hx2.below hb3).below (below_drawn d)
    go_wp2_with fail
    go_at_call 9
    refine (same_eq _ _ _ n _ _ _ hn hr' k4 x4).mono ?_
    rintro e w5 ⟨rfl, d5, rfl⟩
    go_wp2
    go_ret
    exact ⟨rfl, hb1.trans ((hb2.mono hb1.size).trans ((hb3.mono (Nat.le_trans hb1.size hb2.size)).trans (below_drewN (Below.refl _ _) _)))⟩
  · have hx1 := hx.below hb1
    go_wp2_with fail
    go_at_call 13
    refine (store_no _ _ _ _ _ _ hi).mono ?_
    rintro e w' ⟨rfl, rfl⟩
    go_wp2_with fail
    go_at_call 14
    refine (storeOf_no _ _ _ _ _ _ hr' hi).mono ?_
    rintro e w' ⟨rfl, rfl⟩
    go_wp2_with fail
    go_at_call 9
    refine (same_eq _ none none 0 0 0 [] rfl (by omega) (IntsAt.nil _ _) (IntsAt.nil _ _)).mono ?_
    rintro e w' ⟨rfl, d, rfl⟩
    have k4 := i1.below (below_drawn d)
    have x4 := hx1.below (below_drawn d)
    go_wp2_with fail
    go_at_call 9
    refine (same_eq _ _ _ n _ _ _ hn hr' k4 x4).mono ?_
    rintro e w5 ⟨rfl, d5, rfl⟩
    go_wp2
    go_ret
    exact ⟨rfl, hb1.trans (below_drewN (Below.refl _ _) _)⟩

end Go.Proofs.Ytlbilifiehddbaa
