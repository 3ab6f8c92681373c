/-
  OWN TEXT. The walk of the law StoreLoads: it returns true and writes nothing that was there.
-/
import Derived.Test.YtlbilifiehddbabRamL
import Derived.Test.YtlbilifiehddbabRamS
import Derived.Test.YtlbilifiehddbabRamN
import Derived.Test.YtlbilifiehddbabPicked
namespace Go.Proofs.Ytlbilifiehddbab
open Go Go.RowKit Go.Proofs.Ytlbilifiehddbab.Kit

theorem set_at (xs : List Int) (a b : Nat) (v : Int) (hb : b < xs.length) : (xs.set a v).getD b 0 = if a = b then v else xs.getD b 0 := by
  simp only [List.getD_eq_getElem?_getD, List.getElem?_set]
  by_cases h : a = b
  · subst h; simp [hb]
  · simp [h]

theorem rep_at (n i : Nat) : (List.replicate n (0 : Int)).getD i 0 = 0 := by
  simp only [List.getD_eq_getElem?_getD, List.getElem?_replicate]
  split <;> rfl

set_option maxHeartbeats 2000000 in
theorem storeLoads_walk (n at_ other v : Int) (w : World) (wf0 : (Lit.int .i64 n).wf = true) (wf1 : (Lit.int .i64 at_).wf = true) (wf2 : (Lit.int .i64 other).wf = true) (_wf3 : (Lit.int .i64 v).wf = true) :
    Calls Try.prog 3 #[.int .i64 n, .int .i64 at_, .int .i64 other, .int .i64 v] w fun e w' => e = .returned (.bool true) ∧ Below w.heap.size w w' := by
  go_enter Try.func3, Try.ntmps3
  go_wp2_with fail
  go_at_call 8
  refine (picked_any n 4 wf0 (by omega) (by omega) _).mono ?_
  rintro e w' ⟨⟨r, hr, rfl⟩, rfl⟩
  obtain ⟨p, hp⟩ : ∃ k : Nat, (1 : Int) + r = k := ⟨1 + r, by simp⟩
  have hp1 : 1 ≤ p := by omega
  have hp2 : p ≤ 4 := by omega
  go_wp2_with fail
  go_at_call 7
  refine (new_ok w p (by omega)).mono ?_
  rintro e w1 ⟨rfl, hown1, hb1⟩
  have i1 := ints_of_owns hown1
  obtain ⟨l, hl⟩ : ∃ l, p * 16 = l := ⟨_, rfl⟩
  have hl1 : 16 ≤ l := by omega
  have hl2 : l ≤ 64 := by omega
  obtain ⟨l1, hlI⟩ : ∃ l1 : Nat, (l : Int) + 1 = l1 := ⟨l + 1, by simp⟩
  have HI : Hid (IntsAt w1 (some ⟨w.heap.size, 0, none⟩) (List.replicate l 0)) := by rw [← hl]; exact i1
  clear i1 hown1
  go_wp2_with fail
  go_at_call 8
  refine (picked_any at_ l1 wf1 (by omega) (by omega) _).mono ?_
  rintro e w' ⟨⟨a, ha, rfl⟩, rfl⟩
  go_wp2_with fail
  go_at_call 8
  refine (picked_any other l1 wf2 (by omega) (by omega) _).mono ?_
  rintro e w' ⟨⟨b, hb, rfl⟩, rfl⟩
  clear wf0 wf1 wf2 _wf3
  have hr : l * 8 ≤ 140737488351232 := by omega
  by_cases hal : a = l
  · have t1 : ((a : Int) == (l : Int)) = true := by simp; omega
    go_wp2_with fail
    go_at_call 9
    refine (store_no _ _ _ _ _ _ (by omega)).mono ?_
    rintro e w' ⟨rfl, rfl⟩
    clear hal
    go_wp2
    go_ret
    exact ⟨rfl, hb1⟩
  · have t1 : ((a : Int) == (l : Int)) = false := by simp; omega
    have hal' : a < l := by omega
    go_wp2_with fail
    go_at_call 9
    refine (store_yes _ _ l _ a v _ (by simp) hr hal' HI.out).mono ?_
    rintro e w2 ⟨b2, c2, rfl, hown2, hb2⟩
    have i2 := ints_of_owns hown2
    have hl2 := owns_len hown2
    have hB : Below w.heap.size w w2 := hb1.trans (hb2.mono hb1.size)
    have ey : ((List.replicate l (0 : Int)).set a v).getD a 0 = v := by rw [set_at _ _ _ _ (by simpa using hal')]; simp
    clear hal hown2 hb1 hb2 HI
    go_wp2_with fail
    go_at_call 10
    refine (load_yes w2 b2 l c2 a _ hl2 hal' i2).mono ?_
    rintro e w' ⟨rfl, rfl⟩
    rw [ey]
    clear ey
    by_cases hbl : b = l
    · have t2 : ((b : Int) == (l : Int)) = true := by simp; omega
      have t3 : ((a : Int) == (b : Int)) = false := by simp; omega
      go_wp2_with fail
      go_at_call 10
      refine (load_no w2 b2 l c2 _ (by omega)).mono ?_
      rintro e w' ⟨rfl, rfl⟩
      clear hbl
      go_wp2
      go_ret
      exact ⟨rfl, hB⟩
    · have t2 : ((b : Int) == (l : Int)) = false := by simp; omega
      have hbl' : b < l := by omega
      by_cases hab : a = b
      · subst hab
        have ez : ((List.replicate l (0 : Int)).set a v).getD a 0 = v := by rw [set_at _ _ _ _ (by simpa using hal')]; simp
        go_wp2_with fail
        go_at_call 10
        refine (load_yes w2 b2 l c2 a _ hl2 hal' i2).mono ?_
        rintro e w' ⟨rfl, rfl⟩
        rw [ez]
        clear ez hbl
        go_wp2
        go_ret
        exact ⟨rfl, hB⟩
      · have t3 : ((a : Int) == (b : Int)) = false := by simp; omega
        have ez : ((List.replicate l (0 : Int)).set a v).getD b 0 = 0 := by rw [set_at _ _ _ _ (by simpa using hbl'), if_neg hab, rep_at]
        go_wp2_with fail
        go_at_call 10
        refine (load_yes w2 b2 l c2 b _ hl2 hbl' i2).mono ?_
        rintro e w' ⟨rfl, rfl⟩
        rw [ez]
        clear ez hbl hab
        go_wp2
        go_ret
        exact ⟨rfl, hB⟩

end Go.Proofs.Ytlbilifiehddbab
