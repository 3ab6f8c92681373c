/-
  OWN TEXTS, bundled: HcOwn, IIdx, HcList, HcLists, HcLive, ZcSmall, ZcBounds.
-/
import Derived.Test.YtbjlbmofdnkmiaaPagesNewPart7
import Derived.Test.YtbjlbmofdnkmiaaPagesNewPart5
import Derived.Deep.RegionHeld3
import Derived.Test.YtbjlbmofdnkmiaaPagesNewPart4

/-
  OWN TEXT. Contracts of the code: pages.byOwner.
-/
namespace Go.Proofs.Ytbjlbmofdnkmiaa
open Go Go.RowKit Go.Proofs.Ytbjlbmofdnkmiaa.Kit

/-- The order of two lists. -/
def ownC (a b : Ls) : Int := orL [cmpI a.c b.c, cmpI a.z b.z, cmpI a.t b.t]
theorem cmpI_cases (a b : Int) : (a < b ∧ cmpI a b = -1) ∨ (b < a ∧ cmpI a b = 1) ∨ (a = b ∧ cmpI a b = 0) := by
  rcases (show a < b ∨ b < a ∨ a = b by omega) with h | h | h
  · exact .inl ⟨h, by unfold cmpI; rw [if_pos h]⟩
  · exact .inr (.inl ⟨h, by unfold cmpI; rw [if_neg (by omega), if_pos h]⟩)
  · exact .inr (.inr ⟨h, by unfold cmpI; rw [if_neg (by omega), if_neg (by omega)]⟩)
theorem ownC_neg (a b : Ls) : ownC a b < 0 ↔ aheadL a b := by
  unfold ownC aheadL orL orL orL orL
  rcases cmpI_cases a.c b.c with ⟨h, e⟩ | ⟨h, e⟩ | ⟨h, e⟩ <;> rcases cmpI_cases a.z b.z with ⟨h1, e1⟩ | ⟨h1, e1⟩ | ⟨h1, e1⟩ <;> rcases cmpI_cases a.t b.t with ⟨h2, e2⟩ | ⟨h2, e2⟩ | ⟨h2, e2⟩ <;> rw [e, e1, e2] <;> simp <;> omega
theorem ownC_zero (a b : Ls) : ownC a b = 0 ↔ a.c = b.c ∧ a.z = b.z ∧ a.t = b.t := by
  unfold ownC orL orL orL orL
  rcases cmpI_cases a.c b.c with ⟨h, e⟩ | ⟨h, e⟩ | ⟨h, e⟩ <;> rcases cmpI_cases a.z b.z with ⟨h1, e1⟩ | ⟨h1, e1⟩ | ⟨h1, e1⟩ <;> rcases cmpI_cases a.t b.t with ⟨h2, e2⟩ | ⟨h2, e2⟩ | ⟨h2, e2⟩ <;> rw [e, e1, e2] <;> simp <;> omega
theorem ownC_range (a b : Ls) : -1 ≤ ownC a b ∧ ownC a b ≤ 1 := by
  unfold ownC orL orL orL orL
  rcases cmpI_cases a.c b.c with ⟨h, e⟩ | ⟨h, e⟩ | ⟨h, e⟩ <;> rcases cmpI_cases a.z b.z with ⟨h1, e1⟩ | ⟨h1, e1⟩ | ⟨h1, e1⟩ <;> rcases cmpI_cases a.t b.t with ⟨h2, e2⟩ | ⟨h2, e2⟩ | ⟨h2, e2⟩ <;> rw [e, e1, e2] <;> simp

set_option maxHeartbeats 2000000 in
theorem pByOwner_any (w : World) (a b : Ls) (po po' : Value) :
    Calls Try.prog 65 #[.agg #[.int .i64 a.c, .int .i64 a.z, .int .i64 a.t, po], .agg #[.int .i64 b.c, .int .i64 b.z, .int .i64 b.t, po']] w fun e w' => e = .returned (.int .i64 (ownC a b)) ∧ Below w.heap.size w w' := by
  have hb1 := below_box w (.cells #[.int .i64 a.c, .int .i64 a.z, .int .i64 a.t, po] 57)
  have A1 := zbox_new w (.int .i64 a.c) (.int .i64 a.z) (.int .i64 a.t) po 57
  have hb2 := below_box (w.alloc (.cells #[.int .i64 a.c, .int .i64 a.z, .int .i64 a.t, po] 57)) (.cells #[.int .i64 b.c, .int .i64 b.z, .int .i64 b.t, po'] 57)
  have A2 := zbox_new (w.alloc (.cells #[.int .i64 a.c, .int .i64 a.z, .int .i64 a.t, po] 57)) (.int .i64 b.c) (.int .i64 b.z) (.int .i64 b.t) po' 57
  replace A1 := A1.below hb2
  have hb0 := hb1.trans (hb2.mono hb1.size)
  have hs0 : (w.alloc (.cells #[.int .i64 a.c, .int .i64 a.z, .int .i64 a.t, po] 57)).heap.size = w.heap.size + 1 := by simp
  rw [hs0] at A2
  clear hb1 hb2 hs0
  obtain ⟨W0, hW0⟩ : ∃ W0, (w.alloc (.cells #[.int .i64 a.c, .int .i64 a.z, .int .i64 a.t, po] 57)).alloc (.cells #[.int .i64 b.c, .int .i64 b.z, .int .i64 b.t, po'] 57) = W0 := ⟨_, rfl⟩
  rw [hW0] at A1 A2 hb0
  have HW0 : Hid _ := hW0
  clear hW0
  obtain ⟨x0, h0⟩ : ∃ x, cmpI a.c b.c = x := ⟨_, rfl⟩
  obtain ⟨x1, h1⟩ : ∃ x, cmpI a.z b.z = x := ⟨_, rfl⟩
  obtain ⟨x2, h2⟩ : ∃ x, cmpI a.t b.t = x := ⟨_, rfl⟩
  have HO : Hid (ownC a b = orL [x0, x1, x2]) := by show _ = _; unfold ownC; rw [h0, h1, h2]
  have C0 := fun W => cmpCompare_any W a.c b.c
  have C1 := fun W => cmpCompare_any W a.z b.z
  have C2 := fun W => cmpCompare_any W a.t b.t
  rw [h0] at C0
  rw [h1] at C1
  rw [h2] at C2
  clear h0 h1 h2
  have S1 : Below W0.heap.size W0 { W0 with drawn := W0.drawn + 1 } := (Below.refl W0.heap.size W0).drew
  have m0 : ∀ wx, Below W0.heap.size W0 wx → wx.cell? ⟨w.heap.size, 0, none⟩ = some (.int .i64 a.c) := fun wx h => keep A1.c0 h
  have m1 : ∀ wx, Below W0.heap.size W0 wx → wx.cell? ⟨w.heap.size, 1, none⟩ = some (.int .i64 a.z) := fun wx h => keep A1.c1 h
  have m2 : ∀ wx, Below W0.heap.size W0 wx → wx.cell? ⟨w.heap.size, 2, none⟩ = some (.int .i64 a.t) := fun wx h => keep A1.c2 h
  have n0 : ∀ wx, Below W0.heap.size W0 wx → wx.cell? ⟨w.heap.size + 1, 0, none⟩ = some (.int .i64 b.c) := fun wx h => keep A2.c0 h
  have n1 : ∀ wx, Below W0.heap.size W0 wx → wx.cell? ⟨w.heap.size + 1, 1, none⟩ = some (.int .i64 b.z) := fun wx h => keep A2.c1 h
  have n2 : ∀ wx, Below W0.heap.size W0 wx → wx.cell? ⟨w.heap.size + 1, 2, none⟩ = some (.int .i64 b.t) := fun wx h => keep A2.c2 h
  go_enter Try.func65, Try.ntmps65
  go_wp2_with (rw [HW0.out])
  clear HW0
  refine wp_region_peel (S := fun wx => Below W0.heap.size W0 wx) 17 _ (by kernel_rfl) (by kernel_rfl) rfl ?_
  simp only [List.take_succ_cons, List.take_zero]
  refine takeH 0 (v := .pointer (some ⟨w.heap.size, 0, none⟩)) rfl (by kernel_rfl) (by kernel_rfl) (by kernel_rfl) (fun _ _ _ h => h) rfl (fun wx hSx => ?_) S1 ?_
  · go_simp
  try simp only [Act.put, List.setIfInBounds_toArray, List.set_cons_zero, List.set_cons_succ]
  refine takeH 1 (v := .int .i64 a.c) rfl (by kernel_rfl) (by kernel_rfl) (by kernel_rfl) (fun _ _ _ h => h) rfl (fun wx hSx => ?_) S1 ?_
  · go_simp
  try simp only [Act.put, List.setIfInBounds_toArray, List.set_cons_zero, List.set_cons_succ]
  refine takeH 2 (v := .pointer (some ⟨w.heap.size + 1, 0, none⟩)) rfl (by kernel_rfl) (by kernel_rfl) (by kernel_rfl) (fun _ _ _ h => h) rfl (fun wx hSx => ?_) S1 ?_
  · go_simp
  try simp only [Act.put, List.setIfInBounds_toArray, List.set_cons_zero, List.set_cons_succ]
  refine takeH 3 (v := .int .i64 b.c) rfl (by kernel_rfl) (by kernel_rfl) (by kernel_rfl) (fun _ _ _ h => h) rfl (fun wx hSx => ?_) S1 ?_
  · go_simp
  try simp only [Act.put, List.setIfInBounds_toArray, List.set_cons_zero, List.set_cons_succ]
  refine takeH 5 (v := .pointer (some ⟨w.heap.size, 1, none⟩)) rfl (by kernel_rfl) (by kernel_rfl) (by kernel_rfl) (fun _ _ _ h => h) rfl (fun wx hSx => ?_) S1 ?_
  · go_simp
  try simp only [Act.put, List.setIfInBounds_toArray, List.set_cons_zero, List.set_cons_succ]
  refine takeH 6 (v := .int .i64 a.z) rfl (by kernel_rfl) (by kernel_rfl) (by kernel_rfl) (fun _ _ _ h => h) rfl (fun wx hSx => ?_) S1 ?_
  · go_simp
  try simp only [Act.put, List.setIfInBounds_toArray, List.set_cons_zero, List.set_cons_succ]
  refine takeH 7 (v := .pointer (some ⟨w.heap.size + 1, 1, none⟩)) rfl (by kernel_rfl) (by kernel_rfl) (by kernel_rfl) (fun _ _ _ h => h) rfl (fun wx hSx => ?_) S1 ?_
  · go_simp
  try simp only [Act.put, List.setIfInBounds_toArray, List.set_cons_zero, List.set_cons_succ]
  refine takeH 8 (v := .int .i64 b.z) rfl (by kernel_rfl) (by kernel_rfl) (by kernel_rfl) (fun _ _ _ h => h) rfl (fun wx hSx => ?_) S1 ?_
  · go_simp
  try simp only [Act.put, List.setIfInBounds_toArray, List.set_cons_zero, List.set_cons_succ]
  refine takeH 10 (v := .pointer (some ⟨w.heap.size, 2, none⟩)) rfl (by kernel_rfl) (by kernel_rfl) (by kernel_rfl) (fun _ _ _ h => h) rfl (fun wx hSx => ?_) S1 ?_
  · go_simp
  try simp only [Act.put, List.setIfInBounds_toArray, List.set_cons_zero, List.set_cons_succ]
  refine takeH 11 (v := .int .i64 a.t) rfl (by kernel_rfl) (by kernel_rfl) (by kernel_rfl) (fun _ _ _ h => h) rfl (fun wx hSx => ?_) S1 ?_
  · go_simp
  try simp only [Act.put, List.setIfInBounds_toArray, List.set_cons_zero, List.set_cons_succ]
  refine takeH 12 (v := .pointer (some ⟨w.heap.size + 1, 2, none⟩)) rfl (by kernel_rfl) (by kernel_rfl) (by kernel_rfl) (fun _ _ _ h => h) rfl (fun wx hSx => ?_) S1 ?_
  · go_simp
  try simp only [Act.put, List.setIfInBounds_toArray, List.set_cons_zero, List.set_cons_succ]
  refine takeH 13 (v := .int .i64 b.t) rfl (by kernel_rfl) (by kernel_rfl) (by kernel_rfl) (fun _ _ _ h => h) rfl (fun wx hSx => ?_) S1 ?_
  · go_simp
  try simp only [Act.put, List.setIfInBounds_toArray, List.set_cons_zero, List.set_cons_succ]
  refine oneH 4 (by kernel_rfl) rfl rfl (fun K4 hK4 => ?_)
  go_simp
  refine (C0 _).mono ?_
  rintro e wq ⟨rfl, rfl⟩
  refine hK4 _ _ S1 ?_
  try simp only [Act.put, List.setIfInBounds_toArray, List.set_cons_zero, List.set_cons_succ]
  refine oneH 9 (by kernel_rfl) rfl rfl (fun K9 hK9 => ?_)
  go_simp
  refine (C1 _).mono ?_
  rintro e wq ⟨rfl, rfl⟩
  refine hK9 _ _ S1 ?_
  try simp only [Act.put, List.setIfInBounds_toArray, List.set_cons_zero, List.set_cons_succ]
  refine oneH 14 (by kernel_rfl) rfl rfl (fun K14 hK14 => ?_)
  go_simp
  refine (C2 _).mono ?_
  rintro e wq ⟨rfl, rfl⟩
  refine hK14 _ _ S1 ?_
  try simp only [Act.put, List.setIfInBounds_toArray, List.set_cons_zero, List.set_cons_succ]
  refine oneH 15 (by kernel_rfl) rfl rfl (fun K5 hK5 => ?_)
  go_simp
  have SA : Below W0.heap.size W0 (W0.alloc (.cells #[.int .i64 x0, .int .i64 x1, .int .i64 x2] 3)).drew := ((Below.refl _ _).alloc (Nat.le_refl _) _).drew
  have hN : Nums (W0.alloc (.cells #[.int .i64 x0, .int .i64 x1, .int .i64 x2] 3)).drew (some ⟨W0.heap.size, 0, none⟩) 3 [x0, x1, x2] := by
    refine ⟨rfl, by omega, fun i hi => ⟨W0.heap.size, 0, rfl, ?_⟩⟩
    have hc := cell_three_new W0 (.int .i64 x0) (.int .i64 x1) (.int .i64 x2) 3
    have hi' : i < 3 := by simpa using hi
    have h2 : (W0.alloc (.cells #[.int .i64 x0, .int .i64 x1, .int .i64 x2] 3)).drew.cell? ⟨W0.heap.size, i, none⟩ = (W0.alloc (.cells #[.int .i64 x0, .int .i64 x1, .int .i64 x2] 3)).cell? ⟨W0.heap.size, i, none⟩ := rfl
    rw [Nat.zero_add, h2]
    rcases (show i = 0 ∨ i = 1 ∨ i = 2 by omega) with rfl | rfl | rfl
    · exact hc 0 _ rfl
    · exact hc 1 _ rfl
    · exact hc 2 _ rfl
  refine hK5 _ _ SA ?_
  try simp only [Act.put, List.setIfInBounds_toArray, List.set_cons_zero, List.set_cons_succ]
  have HC := cmpOr_any _ (some ⟨W0.heap.size, 0, none⟩) 3 3 [x0, x1, x2] hN
  obtain ⟨V, hV⟩ : ∃ V, (W0.alloc (.cells #[.int .i64 x0, .int .i64 x1, .int .i64 x2] 3)).drew = V := ⟨_, rfl⟩
  rw [hV] at SA HC ⊢
  obtain ⟨R, hR⟩ : ∃ R, orL [x0, x1, x2] = R := ⟨_, rfl⟩
  rw [hR] at HC
  have HR : Hid _ := hR
  clear hV hN hR
  refine oneH 16 (by kernel_rfl) rfl rfl (fun K6 hK6 => ?_)
  go_simp
  refine HC.mono ?_
  rintro e wq ⟨rfl, rfl⟩
  refine hK6 _ _ SA ?_
  try simp only [Act.put, List.setIfInBounds_toArray, List.set_cons_zero, List.set_cons_succ]
  refine wpAnyH_done (by kernel_rfl) ?_ _
  show Oper.wp _ _ _ _ _ _
  have hB := hb0.trans (SA.mono hb0.size)
  clear hK4 hK9 hK14 hK5 hK6 m0 m1 m2 n0 n1 n2 A1 A2 C0 C1 C2 HC S1
  go_wp2
  go_ret
  exact ⟨by rw [HO.out, HR.out]; rfl, hB⟩

end Go.Proofs.Ytbjlbmofdnkmiaa

/-
  OWN TEXT. Contracts of slices.IndexFunc and slices.ContainsFunc over numbers, whatever the closure.
-/
namespace Go.Proofs.Ytbjlbmofdnkmiaa
open Go Go.RowKit Go.Proofs.Ytbjlbmofdnkmiaa.Kit

/-- What the closure does at the numbers of a list, whatever new memory there is. -/
def HoldsI (F : Nat) (caps : Array Value) (l : List Int) (g : Int → Bool) (w : World) : Prop :=
  ∀ (i : Nat), i < l.length → ∀ W : World, Below w.heap.size w W → Calls Try.prog F (#[Value.int .i64 (l.getD i 0)] ++ caps) W fun e W' => e = .returned (.bool (g (l.getD i 0))) ∧ Below W.heap.size W W'

/-- The first place at which it holds is returned, or -1. -/
def FoundI (e : Ending) (l : List Int) (g : Int → Bool) : Prop :=
  (∃ k : Nat, k < l.length ∧ e = .returned (.int .i64 (k : Int)) ∧ g (l.getD k 0) = true ∧ ∀ j, j < k → g (l.getD j 0) = false) ∨ (e = .returned (.int .i64 (-1)) ∧ ∀ j, j < l.length → g (l.getD j 0) = false)

set_option maxHeartbeats 1000000 in
theorem iIndex_any (w : World) (F : Nat) (caps : Array Value) (ao : Option Addr) (n cap : Nat) (l : List Int) (g : Int → Bool) (h : Nums w ao n l)
    (hcall : ∀ args W, (callFunc F args).run Try.prog W = .ok (.enter F args) W) (hc : HoldsI F caps l g w) :
    Calls Try.prog 99 #[.slice ao n cap, .func (.func F) #[] caps] w fun e w' => FoundI e l g ∧ Below w.heap.size w w' := by
  have hlen := h.len
  have hrch := h.reach
  go_enter Try.func99, Try.ntmps99
  go_wp2
  go_loopw [8] (fun i wr => ∃ k : Nat, k ≤ n ∧ i = .int .i64 k ∧ Hid (∀ j, j < k → g (l.getD j 0) = false) ∧ Below w.heap.size w wr) (fun i _ => n - (intOf i).toNat)
  case atStart => exact ⟨0, Nat.zero_le _, rfl, (fun j hj => absurd hj (Nat.not_lt_zero j)), Below.refl _ _⟩
  case round =>
    obtain ⟨k, hk, rfl, hN, hb⟩ := hrel
    by_cases hlt : k < n
    · obtain ⟨b, o, rfl, c0⟩ := h.at_ k (by omega)
      have hc1 := hc k (by omega) wr hb
      obtain ⟨x, hr⟩ : ∃ x, l.getD k 0 = x := ⟨_, rfl⟩
      have HR : Hid (l.getD k 0 = x) := hr
      rw [hr] at c0 hc1
      clear hr
      have d0 := keep c0 hb
      clear c0
      go_wp2_with fail
      refine hc1.mono ?_
      rintro e w1 ⟨rfl, hb1⟩
      have hB := hb.trans (hb1.mono hb.size)
      clear hc1 d0 hc
      cases hg : g x with
      | true =>
        have HT : Hid (g (l.getD k 0) = true) := by show _ = _; rw [HR.out]; exact hg
        clear hg
        go_wp2
        go_ret
        exact ⟨.inl ⟨k, by omega, rfl, HT.out, hN.out⟩, hB⟩
      | false =>
        have HF : Hid (∀ j, j < k + 1 → g (l.getD j 0) = false) := fun j hj => by
          by_cases e : j = k
          · rw [e, HR.out]; exact hg
          · exact hN.out j (by omega)
        clear hg hN
        go_wp2
        go_roundw
        case rel => exact ⟨k + 1, by omega, by go_num, HF, hB⟩
        case measure => simp [intOf]; omega
    · have HF : Hid (∀ j, j < l.length → g (l.getD j 0) = false) := fun j hj => hN.out j (by omega)
      clear hN hc
      go_wp2
      go_ret
      exact ⟨.inr ⟨rfl, HF.out⟩, hb⟩

theorem anyI_of_found {l : List Int} {g : Int → Bool} {k : Nat} (hk : k < l.length) (h : g (l.getD k 0) = true) : l.any g = true := by
  rw [List.any_eq_true]
  exact ⟨l[k], List.getElem_mem _, by rw [List.getD_eq_getElem?_getD, List.getElem?_eq_getElem hk] at h; exact h⟩
theorem anyI_of_none {l : List Int} {g : Int → Bool} (h : ∀ j, j < l.length → g (l.getD j 0) = false) : l.any g = false := by
  rw [List.any_eq_false]
  intro x hx
  obtain ⟨i, hi, rfl⟩ := List.getElem_of_mem hx
  have := h i hi
  rw [List.getD_eq_getElem?_getD, List.getElem?_eq_getElem hi] at this
  simp only [Option.getD_some] at this
  simp [this]

set_option maxHeartbeats 1000000 in
theorem iContains_any (w : World) (F : Nat) (caps : Array Value) (ao : Option Addr) (n cap : Nat) (l : List Int) (g : Int → Bool) (h : Nums w ao n l)
    (hcall : ∀ args W, (callFunc F args).run Try.prog W = .ok (.enter F args) W) (hc : HoldsI F caps l g w) :
    Calls Try.prog 78 #[.slice ao n cap, .func (.func F) #[] caps] w fun e w' => e = .returned (.bool (l.any g)) ∧ Below w.heap.size w w' := by
  go_enter Try.func78, Try.ntmps78
  go_wp2_with fail
  go_at_call 99
  refine (iIndex_any w F caps ao n cap l g h hcall hc).mono ?_
  rintro e w1 ⟨hf, hb⟩
  rcases hf with ⟨k, hk, rfl, hg, _⟩ | ⟨rfl, hg⟩
  · have HF : Hid (l.any g = true) := anyI_of_found hk hg
    clear hg hc
    go_wp2
    go_ret
    exact ⟨ret_bool HF.out.symm, hb⟩
  · have HF : Hid (l.any g = false) := anyI_of_none hg
    clear hg hc
    go_wp2
    go_ret
    exact ⟨ret_bool HF.out.symm, hb⟩

end Go.Proofs.Ytbjlbmofdnkmiaa

/-
  OWN TEXT. Contracts of the code: pages.listMayBe.
-/
namespace Go.Proofs.Ytbjlbmofdnkmiaa
open Go Go.RowKit Go.Proofs.Ytbjlbmofdnkmiaa.Kit

theorem listMayF_call (args : Array Value) (W : World) : (callFunc 79 args).run Try.prog W = .ok (.enter 79 args) W := by kernel_rfl

set_option maxHeartbeats 1000000 in
theorem listMayF_any (w : World) (hb lb : Nat) (zo : Option Addr) (zn zc : Nat) (zs : List Zc) (k : Nat) (p : Int) (hz : Zons w zo zn zs) (hk : k < zn) (h0 : w.cell? ⟨hb, 0, none⟩ = some (.slice zo zn zc)) (h1 : w.cell? ⟨lb, 1, none⟩ = some (.int .i64 (k : Int))) :
    Calls Try.prog 79 #[.int .i64 p, .pointer (some ⟨hb, 0, none⟩), .pointer (some ⟨lb, 0, none⟩)] w fun e w' => e = .returned (.bool (!inB p (zs.getD k .zero).z.f ((zs.getD k .zero).z.t - 1))) ∧ Below w.heap.size w w' := by
  obtain ⟨g, off, z, fo, fn, fc, to_, tn, tc, rfl, c0, c1, c2, c3, _, hX⟩ := hz.at k hk
  rw [hX.out]
  have HP := pIsPage_any w z.f z.t p (.slice fo fn fc) (.slice to_ tn tc)
  have hr := hz.reach
  dsimp only
  obtain ⟨r, hrr⟩ : ∃ r, inB p z.f (z.t - 1) = r := ⟨_, rfl⟩
  rw [hrr] at HP ⊢
  clear hrr hX hz
  go_enter Try.func79, Try.ntmps79
  go_wp2_with fail
  go_at_call 80
  refine HP.mono ?_
  rintro e w1 ⟨rfl, hb1⟩
  clear HP c0 c1 c2 c3 h0 h1
  go_wp2
  go_ret
  exact ⟨rfl, hb1⟩

/-- A list may be, as the code asks for it. -/
structure LsOkX (x : Hx) (l : Ls) : Prop where
  c : 0 ≤ l.c ∧ l.c ≤ x.cpus - 1
  z : 0 ≤ l.z ∧ l.z < x.zn
  t : 0 ≤ l.t ∧ l.t ≤ 2
  n : 1 ≤ l.pages.length ∧ l.pages.length ≤ 8
  p : ∀ i, i < l.pages.length → (x.zs.getD l.z.toNat .zero).z.f ≤ l.pages.getD i 0 ∧ l.pages.getD i 0 < (x.zs.getD l.z.toNat .zero).z.t

set_option maxHeartbeats 4000000 in
theorem pListMay_any (w : World) (x : Hx) (l : Ls) (po : Option Addr) (pn pc : Nat) (hx : x.At w) (hp : Nums w po pn l.pages) :
    Calls Try.prog 64 #[.agg #[.slice x.zo x.zn x.zc, .slice x.mo x.mn x.mc, .int .i64 x.cpus, .slice x.lo x.ln x.lc, .slice x.vo x.vn x.vc], .agg #[.int .i64 l.c, .int .i64 l.z, .int .i64 l.t, .slice po pn pc]] w fun e w' => RetIff e (LsOkX x l) ∧ Below w.heap.size w w' := by
  have hb1 := below_box w (.cells #[.slice x.zo x.zn x.zc, .slice x.mo x.mn x.mc, .int .i64 x.cpus, .slice x.lo x.ln x.lc, .slice x.vo x.vn x.vc] 28)
  have A1 := hbox_new w (.slice x.zo x.zn x.zc) (.slice x.mo x.mn x.mc) (.int .i64 x.cpus) (.slice x.lo x.ln x.lc) (.slice x.vo x.vn x.vc) 28
  have hb2 := below_box (w.alloc (.cells #[.slice x.zo x.zn x.zc, .slice x.mo x.mn x.mc, .int .i64 x.cpus, .slice x.lo x.ln x.lc, .slice x.vo x.vn x.vc] 28)) (.cells #[.int .i64 l.c, .int .i64 l.z, .int .i64 l.t, .slice po pn pc] 57)
  have A2 := zbox_new (w.alloc (.cells #[.slice x.zo x.zn x.zc, .slice x.mo x.mn x.mc, .int .i64 x.cpus, .slice x.lo x.ln x.lc, .slice x.vo x.vn x.vc] 28)) (.int .i64 l.c) (.int .i64 l.z) (.int .i64 l.t) (.slice po pn pc) 57
  replace A1 := A1.below hb2
  have hb0 := hb1.trans (hb2.mono hb1.size)
  have hs0 : (w.alloc (.cells #[.slice x.zo x.zn x.zc, .slice x.mo x.mn x.mc, .int .i64 x.cpus, .slice x.lo x.ln x.lc, .slice x.vo x.vn x.vc] 28)).heap.size = w.heap.size + 1 := by simp
  rw [hs0] at A2
  clear hb1 hb2 hs0
  obtain ⟨W0, hW0⟩ : ∃ W0, (w.alloc (.cells #[.slice x.zo x.zn x.zc, .slice x.mo x.mn x.mc, .int .i64 x.cpus, .slice x.lo x.ln x.lc, .slice x.vo x.vn x.vc] 28)).alloc (.cells #[.int .i64 l.c, .int .i64 l.z, .int .i64 l.t, .slice po pn pc] 57) = W0 := ⟨_, rfl⟩
  rw [hW0] at A1 A2 hb0
  have HW0 : Hid _ := hW0
  clear hW0
  have hz := hx.zones.below hb0
  replace hp := hp.below hb0
  have hlen := hp.len
  have rz := hz.reach
  have rp := hp.reach
  have HC := pIsCpu_any W0 (.slice x.zo x.zn x.zc) (.slice x.mo x.mn x.mc) (.slice x.lo x.ln x.lc) (.slice x.vo x.vn x.vc) x.cpus l.c
  have HT := fun W => pIsType_any W l.t
  have a0 := A1.c0
  have a1 := A1.c1
  have a2 := A1.c2
  have a3 := A1.c3
  have a4 := A1.c4
  have b0 := A2.c0
  go_enter Try.func64, Try.ntmps64
  go_wp2_with (rw [HW0.out])
  go_at_call 45
  refine HC.mono ?_
  rintro e W1 ⟨rfl, hb1⟩
  clear HC HW0 a0 a1 a2 a3 a4 b0
  replace A1 := A1.below hb1
  replace A2 := A2.below hb1
  replace hz := hz.below hb1
  replace hp := hp.below hb1
  have hB1 := hb0.trans (hb1.mono hb0.size)
  have a0 := A1.c0
  have b0 := A2.c0
  have b1 := A2.c1
  have b2 := A2.c2
  have b3 := A2.c3
  have HN : ∀ e, (e = Ending.returned (.bool false)) → ¬ LsOkX x l → RetIff e (LsOkX x l) := fun e he hn => ⟨false, he, by simp [hn]⟩
  have HN' : Hid _ := HN
  clear HN
  by_cases h1 : 0 ≤ l.c ∧ l.c ≤ x.cpus - 1
  · rw [inB_t h1]
    by_cases h2 : 0 ≤ l.z
    · by_cases h3 : l.z < x.zn
      · go_wp2_with fail
        go_at_call 67
        refine (HT _).mono ?_
        rintro e W2 ⟨rfl, rfl⟩
        by_cases h4 : 0 ≤ l.t ∧ l.t ≤ 2
        · rw [inB_t h4]
          by_cases h5 : (pn : Int) < 1
          · have hn : Hid (¬ LsOkX x l) := fun h => by have := h.n; omega
            go_wp2
            go_ret
            exact ⟨HN'.out _ rfl hn.out, hB1⟩
          · by_cases h6 : (8 : Int) < pn
            · have hn : Hid (¬ LsOkX x l) := fun h => by have := h.n; omega
              go_wp2
              go_ret
              exact ⟨HN'.out _ rfl hn.out, hB1⟩
            · obtain ⟨k, hk⟩ : ∃ k : Nat, l.z = k := ⟨l.z.toNat, by omega⟩
              have hkn : k < x.zn := by omega
              have b1' := b1
              rw [hk] at b1'
              have HI := iContains_any W1 79 #[.pointer (some ⟨w.heap.size, 0, none⟩), .pointer (some ⟨w.heap.size + 1, 0, none⟩)] po pn pc l.pages (fun p => !inB p (x.zs.getD k .zero).z.f ((x.zs.getD k .zero).z.t - 1)) hp listMayF_call (fun i hi W hW => listMayF_any W w.heap.size (w.heap.size + 1) x.zo x.zn x.zc x.zs k _ (hz.below hW) hkn (keep a0 hW) (keep b1' hW))
              have HK : Hid (l.z = k) := hk
              clear hk b1'
              go_wp2_with fail
              go_at_call 78
              refine HI.mono ?_
              rintro e W2 ⟨rfl, hb2⟩
              have hB2 := hB1.trans (hb2.mono hB1.size)
              have hfin : Hid (((!(l.pages.any fun p => !inB p (x.zs.getD k .zero).z.f ((x.zs.getD k .zero).z.t - 1))) = true) ↔ LsOkX x l) := by
                show _ ↔ _
                rw [Bool.not_eq_true', List.any_eq_false]
                constructor
                · intro h
                  refine ⟨h1, by rw [HK.out]; omega, h4, by omega, fun i hi => ?_⟩
                  have := h (l.pages.getD i 0) (getD_mem hi)
                  simp only [Bool.not_eq_true, Bool.not_eq_false'] at this
                  have := of_decide_eq_true this
                  rw [HK.out]
                  simp only [Int.toNat_natCast]
                  omega
                · intro h p hp
                  obtain ⟨i, hi, rfl⟩ := List.getElem_of_mem hp
                  have := h.p i hi
                  have e : l.pages.getD i 0 = l.pages[i] := by rw [List.getD_eq_getElem?_getD, List.getElem?_eq_getElem hi]; rfl
                  rw [HK.out, e] at this
                  simp only [Int.toNat_natCast] at this
                  rw [inB_t (by omega)]
                  simp
              generalize (l.pages.any fun p => !inB p (x.zs.getD k .zero).z.f ((x.zs.getD k .zero).z.t - 1)) = r at hfin ⊢
              clear HI b0 b1 b2 b3 a0
              go_wp2
              go_ret
              exact ⟨⟨_, rfl, hfin.out⟩, hB2⟩
        · rw [inB_f h4]
          have hn : Hid (¬ LsOkX x l) := fun h => h4 h.t
          go_wp2
          go_ret
          exact ⟨HN'.out _ rfl hn.out, hB1⟩
      · have hn : Hid (¬ LsOkX x l) := fun h => h3 h.z.2
        go_wp2
        go_ret
        exact ⟨HN'.out _ rfl hn.out, hB1⟩
    · have hn : Hid (¬ LsOkX x l) := fun h => h2 h.z.1
      go_wp2
      go_ret
      exact ⟨HN'.out _ rfl hn.out, hB1⟩
  · rw [inB_f h1]
    have hn : Hid (¬ LsOkX x l) := fun h => h1 h.c
    go_wp2
    go_ret
    exact ⟨HN'.out _ rfl hn.out, hB1⟩

end Go.Proofs.Ytbjlbmofdnkmiaa

/-
  OWN TEXT. Contracts of the code: pages.listsMayBe.
-/
namespace Go.Proofs.Ytbjlbmofdnkmiaa
open Go Go.RowKit Go.Proofs.Ytbjlbmofdnkmiaa.Kit

/-- The lists may be, as the code asks for it. -/
structure LssOkX (x : Hx) : Prop where
  ok : ∀ i, i < x.ln → LsOkX x (x.ls.getD i .zero).l
  ord : ∀ i, 0 < i → i < x.ln → aheadL (x.ls.getD (i - 1) .zero).l (x.ls.getD i .zero).l

/-- So far they may be. -/
def LssTo (x : Hx) (k : Nat) : Prop := (∀ i, i < k → LsOkX x (x.ls.getD i .zero).l) ∧ ∀ i, 0 < i → i < k → aheadL (x.ls.getD (i - 1) .zero).l (x.ls.getD i .zero).l

set_option maxRecDepth 4000 in
set_option maxHeartbeats 4000000 in
theorem pListsMay_any (w : World) (x : Hx) (hx : x.At w) :
    Calls Try.prog 33 #[.agg #[.slice x.zo x.zn x.zc, .slice x.mo x.mn x.mc, .int .i64 x.cpus, .slice x.lo x.ln x.lc, .slice x.vo x.vn x.vc]] w fun e w' => RetIff e (LssOkX x) ∧ Below w.heap.size w w' := by
  obtain ⟨lo, hlo⟩ : ∃ lo, x.lo = lo := ⟨_, rfl⟩
  have hL := hx.lists
  rw [hlo] at hL ⊢
  have HLO : Hid (x.lo = lo) := hlo
  clear hlo
  have hb1 := below_box w (.cells #[.slice x.zo x.zn x.zc, .slice x.mo x.mn x.mc, .int .i64 x.cpus, .slice lo x.ln x.lc, .slice x.vo x.vn x.vc] 28)
  have A1 := hbox_new w (.slice x.zo x.zn x.zc) (.slice x.mo x.mn x.mc) (.int .i64 x.cpus) (.slice lo x.ln x.lc) (.slice x.vo x.vn x.vc) 28
  obtain ⟨W0, hW0⟩ : ∃ W0, w.alloc (.cells #[.slice x.zo x.zn x.zc, .slice x.mo x.mn x.mc, .int .i64 x.cpus, .slice lo x.ln x.lc, .slice x.vo x.vn x.vc] 28) = W0 := ⟨_, rfl⟩
  rw [hW0] at A1 hb1
  have HW0 : Hid _ := hW0
  clear hW0
  replace hx := hx.below hb1
  replace hL := hL.below hb1
  have rl := hx.lists.reach
  have hln := hx.lists.len
  have a3 := A1.c3
  have HNo : Hid (∀ e, (e = Ending.returned (.bool false)) → ¬ LssOkX x → RetIff e (LssOkX x)) := fun e he hn => ⟨false, he, by simp [hn]⟩
  go_enter Try.func33, Try.ntmps33
  go_wp2_with (rw [HW0.out])
  clear HW0 a3
  go_loopw [8] (fun iv wr => ∃ k : Nat, k ≤ x.ln ∧ iv = .int .i64 k ∧ Hid (LssTo x k) ∧ Below W0.heap.size W0 wr) (fun iv _ => x.ln - (intOf iv).toNat)
  case atStart => exact ⟨0, Nat.zero_le _, rfl, ⟨fun i hi => by omega, fun i _ hi => by omega⟩, Below.refl _ _⟩
  case round =>
    obtain ⟨k, hk, rfl, hTo, hB⟩ := hrel
    by_cases hlt : k < x.ln
    · obtain ⟨g, off, c, z, t, pages, po, pn, pc, ha, c0, c1, c2, c3, hat, hz⟩ := (hL.below hB).at k hlt
      have hbb := below_box wr (.cells #[.int .i64 c, .int .i64 z, .int .i64 t, .slice po pn pc] 57)
      have ZB := zbox_new wr (.int .i64 c) (.int .i64 z) (.int .i64 t) (.slice po pn pc) 57
      obtain ⟨Wb, hWb⟩ : ∃ Wb, wr.alloc (.cells #[.int .i64 c, .int .i64 z, .int .i64 t, .slice po pn pc] 57) = Wb := ⟨_, rfl⟩
      rw [hWb] at hbb ZB
      have HWb : Hid _ := hWb
      clear hWb
      have hBb := hB.trans (hbb.mono hB.size)
      have B1 := A1.below hBb
      have a0 := B1.c0
      have a1 := B1.c1
      have a2 := B1.c2
      have a3 := B1.c3
      have a4 := B1.c4
      have z0 := ZB.c0
      have z1 := ZB.c1
      have z2 := ZB.c2
      have z3 := ZB.c3
      have HL := pListMay_any Wb x ⟨c, z, t, pages⟩ po pn pc (hx.below hBb) (hat.below hbb)
      dsimp only at HL
      subst ha
      rw [HLO.out] at HL
      go_wp2_with (rw [HWb.out])
      go_at_call 64
      refine HL.mono ?_
      rintro e W2 ⟨⟨r, rfl, hr⟩, hb2⟩
      have HR : Hid (r = true ↔ LsOkX x (x.ls.getD k .zero).l) := by show _ ↔ _; rw [hz.out]; exact hr
      have hB2 := hBb.trans (hb2.mono hBb.size)
      have B2 := A1.below hB2
      have a3' := B2.c3
      replace ZB := ZB.below hb2
      clear HL a0 a1 a2 a3 a4 z0 z1 z2 z3 HWb B1 hr
      have z0 := ZB.c0
      have z1 := ZB.c1
      have z2 := ZB.c2
      have z3 := ZB.c3
      cases r with
      | false =>
        have hn : Hid (¬ LssOkX x) := fun h => absurd (HR.out.2 (h.ok k hlt)) (by simp)
        have hBB := hb1.trans (hB2.mono hb1.size)
        clear HR hTo
        go_wp2
        go_ret
        exact ⟨HNo.out _ rfl hn.out, hBB⟩
      | true =>
        have hok := HR.out.1 rfl
        by_cases h0 : k = 0
        · have HT : Hid (LssTo x (k + 1)) := by
            refine ⟨fun i hi => ?_, fun i h1 h2 => by omega⟩
            obtain rfl : i = k := by omega
            exact hok
          have H0 : Hid (k = 0) := h0
          clear HR hTo hok hz h0
          go_wp2_with fail
          obtain ⟨K, hK⟩ : ∃ K : Int, (k : Int) = K := ⟨_, rfl⟩
          rw [hK]
          have h0 := H0.out
          have t0 : decide ((0 : Int) < K) = false := decide_eq_false (by omega)
          have HK : Hid ((k : Int) = K) := hK
          have k1 : K = 0 := by omega
          clear h0 hK k1
          have k2 : K ≤ 0 := by have := of_decide_eq_false t0; omega
          have k3 : 0 ≤ K := by have := HK.out; omega
          go_quiet (fail)
          go_wp2
          go_roundw
          case rel => exact ⟨k + 1, by omega, by rw [← HK.out]; go_num, HT, hB2.trans ((below_drawn _).mono hB2.size)⟩
          case measure => rw [← HK.out]; simp [intOf]; omega
        · obtain ⟨j, hj⟩ : ∃ j, j + 1 = k := ⟨k - 1, by omega⟩
          obtain ⟨g', off', c', z', t', pages', po', pn', pc', ha', d0, d1, d2, d3, hat', hz'⟩ := (hL.below hB2).at j (by omega)
          simp only [Option.some.injEq, Addr.mk.injEq, and_true] at ha'
          obtain ⟨rfl, rfl⟩ := ha'
          have tj : (j : Int) < (x.ln : Int) := by omega
          have HO : Hid (∀ W, Below W2.heap.size W2 W → Calls Try.prog 65 #[.agg #[.int .i64 c', .int .i64 z', .int .i64 t', .slice po' pn' pc'], .agg #[.int .i64 c, .int .i64 z, .int .i64 t, .slice po pn pc]] W fun e w' => e = .returned (.int .i64 (ownC ⟨c', z', t', pages'⟩ ⟨c, z, t, pages⟩)) ∧ Below W2.heap.size W2 w') := fun W hS => by
            refine (pByOwner_any W ⟨c', z', t', pages'⟩ ⟨c, z, t, pages⟩ (.slice po' pn' pc') (.slice po pn pc)).mono ?_
            rintro e w' ⟨rfl, hb⟩
            exact ⟨rfl, hS.trans (hb.mono hS.size)⟩
          obtain ⟨C, hC⟩ : ∃ C, ownC ⟨c', z', t', pages'⟩ ⟨c, z, t, pages⟩ = C := ⟨_, rfl⟩
          have hrg := ownC_range ⟨c', z', t', pages'⟩ ⟨c, z, t, pages⟩
          have hng := ownC_neg ⟨c', z', t', pages'⟩ ⟨c, z, t, pages⟩
          rw [hC] at HO hrg hng
          have HN : Hid (C < 0 ↔ aheadL (x.ls.getD j .zero).l (x.ls.getD k .zero).l) := by show _ ↔ _; rw [hz.out, hz'.out]; exact hng
          obtain ⟨r1, r2⟩ := hrg
          have m0 : ∀ wx, Below W2.heap.size W2 wx → wx.cell? ⟨w.heap.size, 3, none⟩ = some (.slice (some ⟨g, off, none⟩) x.ln x.lc) := fun wx h => keep a3' h
          have m1 : ∀ wx, Below W2.heap.size W2 wx → wx.cell? ⟨g, off + j * 4, none⟩ = some (.int .i64 c') := fun wx h => keep d0 h
          have m2 : ∀ wx, Below W2.heap.size W2 wx → wx.cell? ⟨g, off + j * 4 + 1, none⟩ = some (.int .i64 z') := fun wx h => keep d1 h
          have m3 : ∀ wx, Below W2.heap.size W2 wx → wx.cell? ⟨g, off + j * 4 + 2, none⟩ = some (.int .i64 t') := fun wx h => keep d2 h
          have m4 : ∀ wx, Below W2.heap.size W2 wx → wx.cell? ⟨g, off + j * 4 + 3, none⟩ = some (.slice po' pn' pc') := fun wx h => keep d3 h
          have n0 : ∀ wx, Below W2.heap.size W2 wx → wx.cell? ⟨wr.heap.size, 0, none⟩ = some (.int .i64 c) := fun wx h => keep z0 h
          have n1 : ∀ wx, Below W2.heap.size W2 wx → wx.cell? ⟨wr.heap.size, 1, none⟩ = some (.int .i64 z) := fun wx h => keep z1 h
          have n2 : ∀ wx, Below W2.heap.size W2 wx → wx.cell? ⟨wr.heap.size, 2, none⟩ = some (.int .i64 t) := fun wx h => keep z2 h
          have n3 : ∀ wx, Below W2.heap.size W2 wx → wx.cell? ⟨wr.heap.size, 3, none⟩ = some (.slice po pn pc) := fun wx h => keep z3 h
          have S0 : Below W2.heap.size W2 W2 := Below.refl _ _
          have hTo' : Hid (aheadL (x.ls.getD j .zero).l (x.ls.getD k .zero).l → LssTo x (k + 1)) := fun hah => ⟨fun i hi => by
              by_cases e : i = k
              · rw [e]; exact hok
              · exact hTo.out.1 i (by omega), fun i h1 h2 => by
              by_cases e : i = k
              · rw [e, ← hj]; rw [← hj] at hah; exact hah
              · exact hTo.out.2 i h1 (by omega)⟩
          clear hC hng hz hz' hat hat' HR hTo hok c0 c1 c2 c3 d0 d1 d2 d3 z0 z1 z2 z3 a3' B2 ZB
          have HJ : Hid _ := hj
          clear hj
          go_wp2_with fail
          obtain ⟨K, hK⟩ : ∃ K : Int, (k : Int) = K := ⟨_, rfl⟩
          rw [hK]
          have t0 : (0 : Int) < K := by omega
          have t1 : decide ((0 : Int) < K) = true := decide_eq_true t0
          have ek : K - 1 = (j : Int) := by have := HJ.out; omega
          have kb : K ≤ 140737488351232 := by omega
          have ew : IntKind.i64.wrap (K - 1) = (j : Int) := by rw [ek]; exact IntWalk.i64_in _ (by omega)
          have ewj : IntKind.i64.wrap (j : Int) = (j : Int) := IntWalk.i64_in _ (by omega)
          clear ek
          have t2 : (0 : Int) ≤ (j : Int) := by omega
          have t3 : (j : Int) ≤ (x.ln : Int) := by omega
          have t4 : j < x.ln := by omega
          have HK : Hid ((k : Int) = K) := hK
          clear hK
          go_region_held3 (fun wx => Below W2.heap.size W2 wx) (first | assumption | exact Below.drew (by assumption))
            (first
              | (go_at_call 65; refine (HO.out _ ?_).mono ?_; assumption; rintro e w3 ⟨rfl, hS3⟩))
          have hB3 := hB2.trans (hS3.mono hB2.size)
          by_cases hC : C < 0
          · have HT := hTo'.out (HN.out.1 hC)
            have HT' : Hid _ := HT
            clear HT HN hTo' HO m0 m1 m2 m3 m4 n0 n1 n2 n3 S0
            go_wp2
            go_roundw
            case rel => exact ⟨k + 1, by omega, by rw [← HK.out]; go_num, HT', hB3⟩
            case measure => rw [← HK.out]; simp [intOf]; omega
          · have hn : Hid (¬ LssOkX x) := fun h => hC (HN.out.2 (by have := h.ord k (by omega) hlt; rw [show k - 1 = j by have := HJ.out; omega] at this; exact this))
            have hBB := hb1.trans (hB3.mono hb1.size)
            clear HN hTo' HO m0 m1 m2 m3 m4 n0 n1 n2 n3 S0
            go_wp2
            go_ret
            exact ⟨HNo.out _ rfl hn.out, hBB⟩
    · have hY : Hid (LssOkX x) := ⟨fun i hi => hTo.out.1 i (by omega), fun i h1 h2 => hTo.out.2 i h1 (by omega)⟩
      have hBB := hb1.trans (hB.mono hb1.size)
      clear hTo
      go_wp2
      go_ret
      exact ⟨⟨true, rfl, fun _ => hY.out, fun _ => rfl⟩, hBB⟩

end Go.Proofs.Ytbjlbmofdnkmiaa

/-
  OWN TEXT. Contracts of the code: pages.liveMayBe.
-/
namespace Go.Proofs.Ytbjlbmofdnkmiaa
open Go Go.RowKit Go.Proofs.Ytbjlbmofdnkmiaa.Kit

/-- So far they may be. -/
def LvTo (l : List Bk) (k : Nat) : Prop := (∀ i, i < k → LvOk (l.getD i .zero)) ∧ ∀ i, 0 < i → i < k → (l.getD (i - 1) .zero).a < (l.getD i .zero).a
/-- The least place of the next one. -/
def leastL (l : List Bk) (k : Nat) : Int := if k = 0 then 0 else (l.getD (k - 1) .zero).a + 1

theorem sameQ {F : Nat} {args : Array Value} {v : Value} (h : ∀ w : World, Calls Try.prog F args w fun e w' => e = .returned v ∧ w = w') (w : World) : Calls Try.prog F args w fun e w' => e = .returned v ∧ w' = w := (h w).mono fun _ _ ⟨a, b⟩ => ⟨a, b.symm⟩

set_option maxRecDepth 4000 in
set_option maxHeartbeats 4000000 in
theorem pLiveMay_any (w : World) (ao : Option Addr) (n cap : Nat) (l : List Bk) (h : Blks w ao n l) :
    Calls Try.prog 34 #[.slice ao n cap] w fun e w' => RetIff e (LvsOk l) ∧ Below w.heap.size w w' := by
  have hn := h.len
  have hr := h.reach
  have HNo : Hid (∀ e, (e = Ending.returned (.bool false)) → ¬ LvsOk l → RetIff e (LvsOk l)) := fun e he hn => ⟨false, he, by simp [hn]⟩
  go_enter Try.func34, Try.ntmps34
  go_wp2
  go_loopw [3, 8] (fun lv iv wr => ∃ (k : Nat) (L : Int), k ≤ n ∧ lv = .int .i64 L ∧ iv = .int .i64 k ∧ Hid (L = leastL l k) ∧ Hid (LvTo l k) ∧ Below w.heap.size w wr) (fun _ iv _ => n - (intOf iv).toNat)
  case atStart => exact ⟨0, 0, Nat.zero_le _, rfl, rfl, rfl, ⟨fun i hi => by omega, fun i _ hi => by omega⟩, Below.refl _ _⟩
  case round =>
    obtain ⟨k, L, hk, rfl, rfl, hL, HTo, hB⟩ := hrel
    have l0 : 0 ≤ L ∧ L ≤ 256 := by
      rw [hL.out]
      unfold leastL
      by_cases e : k = 0
      · rw [if_pos e]; omega
      · rw [if_neg e]; have := (HTo.out.1 (k - 1) (by omega)).a; omega
    obtain ⟨l1, l2⟩ := l0
    by_cases hlt : k < n
    · obtain ⟨b, off, a, o, t, rfl, c0, c1, c2, HX⟩ := (h.below hB).at_.at k (by omega)
      have hbb := below_box wr (.cells #[.int .i64 a, .int .i64 o, .int .i64 t] 63)
      have y0 : (wr.alloc (.cells #[.int .i64 a, .int .i64 o, .int .i64 t] 63)).cell? ⟨wr.heap.size, 0, none⟩ = some (.int .i64 a) := by go_simp
      have y1 : (wr.alloc (.cells #[.int .i64 a, .int .i64 o, .int .i64 t] 63)).cell? ⟨wr.heap.size, 1, none⟩ = some (.int .i64 o) := by go_simp
      have y2 : (wr.alloc (.cells #[.int .i64 a, .int .i64 o, .int .i64 t] 63)).cell? ⟨wr.heap.size, 2, none⟩ = some (.int .i64 t) := by go_simp
      obtain ⟨Wb, hWb⟩ : ∃ Wb, wr.alloc (.cells #[.int .i64 a, .int .i64 o, .int .i64 t] 63) = Wb := ⟨_, rfl⟩
      rw [hWb] at hbb y0 y1 y2
      have HWb : Hid _ := hWb
      have hBb := hB.trans (hbb.mono hB.size)
      clear hWb
      have HOrd := sameQ fun W => pIsOrder_any W o
      have HTyp := sameQ fun W => pIsType_any W t
      go_wp2_with (rw [HWb.out])
      clear HWb c0 c1 c2 hbb
      by_cases h1 : ordOk o
      · rw [inB_t (show 0 ≤ o ∧ o ≤ 4 from h1)] at HOrd
        by_cases h2 : typeOk t
        · rw [inB_t (show 0 ≤ t ∧ t ≤ 2 from h2)] at HTyp
          by_cases h3 : a < L
          · have d3 : decide (a < L) = true := decide_eq_true h3
            have hn : Hid (¬ LvsOk l) := fun h => by
              have hk := h.ok k (by omega)
              rw [HX.out] at hk
              by_cases e : k = 0
              · have := hL.out; unfold leastL at this; rw [if_pos e] at this; have := hk.a; dsimp only at this; omega
              · have h5 := hL.out; unfold leastL at h5; rw [if_neg e] at h5; have := h.ord k (by omega) (by omega); rw [HX.out] at this; dsimp only at this; omega
            clear HTo HX hL
            go_quiet (first | (go_at_call 66; exact Calls.quiet_of_same (HOrd _)) | (go_at_call 67; exact Calls.quiet_of_same (HTyp _)))
            go_wp2
            go_ret
            exact ⟨HNo.out _ rfl hn.out, hBb.trans ((below_drawn _).mono hBb.size)⟩
          · have d3 : decide (a < L) = false := decide_eq_false h3
            by_cases h4 : 256 ≤ a
            · have d4 : decide ((256 : Int) ≤ a) = true := decide_eq_true h4
              have hn : Hid (¬ LvsOk l) := fun h => by
                have hk := h.ok k (by omega)
                rw [HX.out] at hk
                have := hk.a; dsimp only at this; omega
              clear HTo HX hL
              go_quiet (first | (go_at_call 66; exact Calls.quiet_of_same (HOrd _)) | (go_at_call 67; exact Calls.quiet_of_same (HTyp _)))
              go_wp2
              go_ret
              exact ⟨HNo.out _ rfl hn.out, hBb.trans ((below_drawn _).mono hBb.size)⟩
            · have d4 : decide ((256 : Int) ≤ a) = false := decide_eq_false h4
              have a0 : 0 ≤ a := by omega
              have hp := pw_pos o
              have hp16 := pw_le h1
              have hw1 : IntKind.i64.wrap ((2 : Int) ^ o.toNat) = pw o := by rcases ord_cases h1 with ⟨rfl, e⟩ | ⟨rfl, e⟩ | ⟨rfl, e⟩ | ⟨rfl, e⟩ | ⟨rfl, e⟩ <;> (rw [e]; rfl)
              obtain ⟨P, hP⟩ : ∃ P, pw o = P := ⟨_, rfl⟩
              have HP : Hid (pw o = P) := hP
              rw [hP] at hp hp16 hw1
              obtain ⟨M, hM⟩ : ∃ M : Int, a.tmod P = M := ⟨_, rfl⟩
              have hM2 : Hid (M = a % P) := by show _ = _; rw [← hM, Int.tmod_eq_emod_of_nonneg a0]
              have m1 : 0 ≤ M := by rw [hM2.out]; exact Int.emod_nonneg _ (by omega)
              have m2 : M < 16 := by rw [hM2.out]; have := Int.emod_lt_of_pos a (show 0 < P by omega); omega
              have hwM : IntKind.i64.wrap M = M := IntWalk.i64_in _ (by omega)
              have hP0 : (P == 0) = false := by simp; omega
              have hem : a % P = M := hM2.out.symm
              obtain ⟨o0, o4⟩ := id h1
              clear hP
              by_cases h5 : M = 0
              · have d5 : (M == 0) = true := by simp [h5]
                have hok : LvOk ⟨a, o, t⟩ := ⟨h1, ⟨a0, by show a < 256; omega⟩, by show a % pw o = 0; rw [HP.out, ← hM2.out]; exact h5, h2⟩
                have HT : Hid (LvTo l (k + 1)) := ⟨fun i hi => by
                    by_cases e : i = k
                    · rw [e, HX.out]; exact hok
                    · exact HTo.out.1 i (by omega), fun i g1 g2 => by
                    by_cases e : i = k
                    · rw [e, HX.out]
                      have := hL.out
                      unfold leastL at this
                      rw [if_neg (by omega)] at this
                      show _ < a
                      omega
                    · exact HTo.out.2 i g1 (by omega)⟩
                have HL2 : Hid (a + 1 = leastL l (k + 1)) := by
                  show _ = _
                  unfold leastL
                  rw [if_neg (by omega), show k + 1 - 1 = k by omega, HX.out]
                clear HTo hL HX hok h5
                go_quiet (first | (go_at_call 66; exact Calls.quiet_of_same (HOrd _)) | (go_at_call 67; exact Calls.quiet_of_same (HTyp _)))
                have hB9 := hBb.trans ((below_drawn nq).mono hBb.size)
                replace y0 := keep y0 (below_drawn nq)
                generalize Wb.drewN nq = W9 at hB9 y0 ⊢
                clear hw1 hM hwM hem HOrd HTyp y1 y2
                go_wp2
                go_roundw
                case rel => exact ⟨k + 1, a + 1, by omega, rfl, by go_num, HL2, HT, hB9⟩
                case measure => simp [intOf]; omega
              · have d5 : (M == 0) = false := by simpa using h5
                have hn : Hid (¬ LvsOk l) := fun h => by
                  have hk := h.ok k (by omega)
                  rw [HX.out] at hk
                  have := hk.m
                  dsimp only at this
                  rw [HP.out, ← hM2.out] at this
                  exact h5 this
                clear HTo HX hL
                go_quiet (first | (go_at_call 66; exact Calls.quiet_of_same (HOrd _)) | (go_at_call 67; exact Calls.quiet_of_same (HTyp _)))
                go_wp2
                go_ret
                exact ⟨HNo.out _ rfl hn.out, hBb.trans ((below_drawn _).mono hBb.size)⟩
        · rw [inB_f (show ¬ (0 ≤ t ∧ t ≤ 2) from h2)] at HTyp
          have hn : Hid (¬ LvsOk l) := fun h => by
            have hk := h.ok k (by omega)
            rw [HX.out] at hk
            exact h2 hk.t
          clear HTo HX hL
          go_quiet (first | (go_at_call 66; exact Calls.quiet_of_same (HOrd _)) | (go_at_call 67; exact Calls.quiet_of_same (HTyp _)))
          go_wp2
          go_ret
          exact ⟨HNo.out _ rfl hn.out, hBb.trans ((below_drawn _).mono hBb.size)⟩
      · rw [inB_f (show ¬ (0 ≤ o ∧ o ≤ 4) from h1)] at HOrd
        have hn : Hid (¬ LvsOk l) := fun h => by
          have hk := h.ok k (by omega)
          rw [HX.out] at hk
          exact h1 hk.o
        clear HTo HX hL
        go_quiet (first | (go_at_call 66; exact Calls.quiet_of_same (HOrd _)) | (go_at_call 67; exact Calls.quiet_of_same (HTyp _)))
        go_wp2
        go_ret
        exact ⟨HNo.out _ rfl hn.out, hBb.trans ((below_drawn _).mono hBb.size)⟩
    · have hY : Hid (LvsOk l) := ⟨fun i hi => HTo.out.1 i (by omega), fun i h1 h2 => HTo.out.2 i h1 (by omega)⟩
      clear HTo hL
      go_wp2
      go_ret
      exact ⟨⟨true, rfl, fun _ => hY.out, fun _ => rfl⟩, hB⟩

end Go.Proofs.Ytbjlbmofdnkmiaa

/-
  OWN TEXT. Contracts of the code: buddy's small functions.
-/
namespace Go.Proofs.Ytbjlbmofdnkmiaa
open Go Go.RowKit Go.Proofs.Ytbjlbmofdnkmiaa.Kit

set_option maxHeartbeats 1000000 in
theorem isType_any (w : World) (x : Int) :
    Calls Try.prog 96 #[.int .i64 x] w fun e w' => e = .returned (.bool (inB x 0 2)) ∧ w = w' := by
  by_cases h1 : 0 ≤ x
  · by_cases h2 : x < 3
    · have HR : Hid (inB x 0 2 = true) := inB_t (by omega)
      go_enter Try.func96, Try.ntmps96
      go_wp2
      go_ret
      exact ⟨ret_bool HR.out.symm, rfl⟩
    · have HR : Hid (inB x 0 2 = false) := inB_f (by omega)
      go_enter Try.func96, Try.ntmps96
      go_wp2
      go_ret
      exact ⟨ret_bool HR.out.symm, rfl⟩
  · have HR : Hid (inB x 0 2 = false) := inB_f (by omega)
    go_enter Try.func96, Try.ntmps96
    go_wp2
    go_ret
    exact ⟨ret_bool HR.out.symm, rfl⟩

set_option maxHeartbeats 1000000 in
theorem isOrder_any (w : World) (x : Int) :
    Calls Try.prog 109 #[.int .i64 x] w fun e w' => e = .returned (.bool (inB x 0 4)) ∧ w = w' := by
  by_cases h1 : 0 ≤ x
  · by_cases h2 : x ≤ 4
    · have HR : Hid (inB x 0 4 = true) := inB_t (by omega)
      go_enter Try.func109, Try.ntmps109
      go_wp2
      go_ret
      exact ⟨ret_bool HR.out.symm, rfl⟩
    · have HR : Hid (inB x 0 4 = false) := inB_f (by omega)
      go_enter Try.func109, Try.ntmps109
      go_wp2
      go_ret
      exact ⟨ret_bool HR.out.symm, rfl⟩
  · have HR : Hid (inB x 0 4 = false) := inB_f (by omega)
    go_enter Try.func109, Try.ntmps109
    go_wp2
    go_ret
    exact ⟨ret_bool HR.out.symm, rfl⟩

set_option maxHeartbeats 1000000 in
theorem isPage_any (w : World) (f t : Int) (fo to_ : Option Addr) (fn fc tn tc : Nat) (a : Int) :
    Calls Try.prog 101 #[.agg #[.int .i64 f, .int .i64 t, .slice fo fn fc, .slice to_ tn tc], .int .i64 a] w fun e w' => e = .returned (.bool (inB a f (t - 1))) ∧ Below w.heap.size w w' := by
  have hb1 := below_box w (.cells #[.int .i64 f, .int .i64 t, .slice fo fn fc, .slice to_ tn tc] 44)
  by_cases h1 : f ≤ a
  · by_cases h2 : a < t
    · have HR : Hid (inB a f (t - 1) = true) := inB_t (by omega)
      go_enter Try.func101, Try.ntmps101
      go_wp2
      go_ret
      exact ⟨ret_bool HR.out.symm, hb1⟩
    · have HR : Hid (inB a f (t - 1) = false) := inB_f (by omega)
      go_enter Try.func101, Try.ntmps101
      go_wp2
      go_ret
      exact ⟨ret_bool HR.out.symm, hb1⟩
  · have HR : Hid (inB a f (t - 1) = false) := inB_f (by omega)
    go_enter Try.func101, Try.ntmps101
    go_wp2
    go_ret
    exact ⟨ret_bool HR.out.symm, hb1⟩

set_option maxHeartbeats 1000000 in
theorem behind_any (w : World) (a o x : Int) (ho : ordOk o) (h0 : 0 ≤ a) (h1 : a ≤ 256) :
    Calls Try.prog 91 #[.agg #[.int .i64 a, .int .i64 o, .int .i64 x]] w fun e w' => e = .returned (.int .i64 (a + pw o)) ∧ Below w.heap.size w w' := by
  have hb1 := below_box w (.cells #[.int .i64 a, .int .i64 o, .int .i64 x] 63)
  rcases ord_cases ho with ⟨rfl, e⟩ | ⟨rfl, e⟩ | ⟨rfl, e⟩ | ⟨rfl, e⟩ | ⟨rfl, e⟩
  all_goals
    rw [e]
    clear e ho
    go_enter Try.func91, Try.ntmps91
    go_wp2
    go_quiet (fail)
    go_wp2
    go_ret
    exact ⟨rfl, below_drewN hb1 _⟩

set_option maxHeartbeats 1000000 in
/-- May a block be in the zone, as the code looks. -/
theorem blkMay_any (w : World) (f t : Int) (fo to_ : Option Addr) (fn fc tn tc : Nat) (a o : Int) (h : newOk f t) :
    Calls Try.prog 97 #[.agg #[.int .i64 f, .int .i64 t, .slice fo fn fc, .slice to_ tn tc], .int .i64 a, .int .i64 o] w fun e w' => e = .returned (.bool (blkB f t a o)) ∧ Below w.heap.size w w' := by
  obtain ⟨h1, h2, h3, h4, h5⟩ := h
  have hb1 := below_box w (.cells #[.int .i64 f, .int .i64 t, .slice fo fn fc, .slice to_ tn tc] 44)
  have Z0 := zbox_new w (.int .i64 f) (.int .i64 t) (.slice fo fn fc) (.slice to_ tn tc) 44
  have c0 := Z0.c0
  have c1 := Z0.c1
  have c2 := Z0.c2
  have c3 := Z0.c3
  by_cases p1 : 0 ≤ o ∧ o ≤ 4
  · have e1 : Hid (inB o 0 4 = true) := inB_t p1
    by_cases p2 : f ≤ a ∧ a ≤ t - 1
    · have e2 : Hid (inB a f (t - 1) = true) := inB_t p2
      obtain ⟨A, rfl⟩ : ∃ A : Nat, a = A := ⟨a.toNat, by omega⟩
      obtain ⟨r, hr⟩ : ∃ r, blkB f t (A : Int) o = r := ⟨_, rfl⟩
      rw [hr]
      rcases ord_cases p1 with ⟨rfl, e⟩ | ⟨rfl, e⟩ | ⟨rfl, e⟩ | ⟨rfl, e⟩ | ⟨rfl, e⟩
      all_goals
        unfold blkB at hr
        rw [e1.out, e2.out, e, Bool.true_and, Bool.true_and] at hr
        have HR : Hid _ := hr
        clear hr e p1
        go_enter Try.func97, Try.ntmps97
        go_wp2_with fail
        go_at_call 109
        refine (isOrder_any _ _).mono ?_
        rintro e w' ⟨rfl, rfl⟩
        rw [e1.out]
        go_wp2_with fail
        go_at_call 101
        refine (isPage_any _ _ _ _ _ _ _ _ _ _).mono ?_
        rintro e w2 ⟨rfl, hb2⟩
        rw [e2.out]
        have hB := hb1.trans (hb2.mono hb1.size)
        clear c0 c1 c2 c3 Z0
        go_wp2
        go_ret
        exact ⟨ret_bool (by first | exact HR.out | (rw [← HR.out]; simp)), hB⟩
    · have e2 : Hid (inB a f (t - 1) = false) := inB_f p2
      have HR : Hid (blkB f t a o = false) := by show _ = _; unfold blkB; rw [e1.out, e2.out]; rfl
      go_enter Try.func97, Try.ntmps97
      go_wp2_with fail
      go_at_call 109
      refine (isOrder_any _ _).mono ?_
      rintro e w' ⟨rfl, rfl⟩
      rw [e1.out]
      go_wp2_with fail
      go_at_call 101
      refine (isPage_any _ _ _ _ _ _ _ _ _ _).mono ?_
      rintro e w2 ⟨rfl, hb2⟩
      rw [e2.out]
      have hB := hb1.trans (hb2.mono hb1.size)
      clear c0 c1 c2 c3 Z0
      go_wp2
      go_ret
      exact ⟨ret_bool HR.out.symm, hB⟩
  · have e1 : Hid (inB o 0 4 = false) := inB_f p1
    have HR : Hid (blkB f t a o = false) := by show _ = _; unfold blkB; rw [e1.out]; rfl
    go_enter Try.func97, Try.ntmps97
    go_wp2_with fail
    go_at_call 109
    refine (isOrder_any _ _).mono ?_
    rintro e w' ⟨rfl, rfl⟩
    rw [e1.out]
    go_wp2
    go_ret
    exact ⟨ret_bool HR.out.symm, hb1⟩

theorem xor_0 : ∀ a : Nat, a < 256 → bits BinOp.xor IntKind.i64 (a : Int) 1 = besideA a 0 := by decide +kernel
theorem xor_1 : ∀ a : Nat, a < 256 → a % 2 = 0 → bits BinOp.xor IntKind.i64 (a : Int) 2 = besideA a 1 := by decide +kernel
theorem xor_2 : ∀ a : Nat, a < 256 → a % 4 = 0 → bits BinOp.xor IntKind.i64 (a : Int) 4 = besideA a 2 := by decide +kernel
theorem xor_3 : ∀ a : Nat, a < 256 → a % 8 = 0 → bits BinOp.xor IntKind.i64 (a : Int) 8 = besideA a 3 := by decide +kernel

set_option maxHeartbeats 1000000 in
theorem beside_any (w : World) (a : Nat) (o : Int) (ho : ordOk o) (h4 : o < 4) (h1 : a < 256) (hm : (a : Int) % pw o = 0) :
    Calls Try.prog 105 #[.int .i64 a, .int .i64 o] w fun e w' => e = .returned (.int .i64 (besideA a o)) ∧ w = w' := by
  rcases ord_cases ho with ⟨rfl, e⟩ | ⟨rfl, e⟩ | ⟨rfl, e⟩ | ⟨rfl, e⟩ | ⟨rfl, e⟩
  · have HX : Hid (bits BinOp.xor IntKind.i64 (a : Int) 1 = besideA a 0) := xor_0 a h1
    clear e ho hm
    go_enter Try.func105, Try.ntmps105
    go_wp2
    go_ret
    exact ⟨congrArg (fun v => Ending.returned (.int .i64 v)) HX.out, rfl⟩
  · rw [e] at hm
    have HX : Hid (bits BinOp.xor IntKind.i64 (a : Int) 2 = besideA a 1) := xor_1 a h1 (by omega)
    clear e ho hm
    go_enter Try.func105, Try.ntmps105
    go_wp2
    go_ret
    exact ⟨congrArg (fun v => Ending.returned (.int .i64 v)) HX.out, rfl⟩
  · rw [e] at hm
    have HX : Hid (bits BinOp.xor IntKind.i64 (a : Int) 4 = besideA a 2) := xor_2 a h1 (by omega)
    clear e ho hm
    go_enter Try.func105, Try.ntmps105
    go_wp2
    go_ret
    exact ⟨congrArg (fun v => Ending.returned (.int .i64 v)) HX.out, rfl⟩
  · rw [e] at hm
    have HX : Hid (bits BinOp.xor IntKind.i64 (a : Int) 8 = besideA a 3) := xor_3 a h1 (by omega)
    clear e ho hm
    go_enter Try.func105, Try.ntmps105
    go_wp2
    go_ret
    exact ⟨congrArg (fun v => Ending.returned (.int .i64 v)) HX.out, rfl⟩
  · omega

/-- Two blocks are beside each other, as the code looks. -/
def areB (p b : Bk) : Bool := decide (p.o = b.o) && (decide (p.o < 4) && decide (b.a = besideA p.a p.o))
theorem areB_iff {p b : Bk} (h : p.a + pw p.o ≤ b.a) : areB p b = true ↔ besideP p b := by
  unfold areB besideP besideA
  simp only [Bool.and_eq_true, decide_eq_true_eq]
  have := pw_pos p.o
  constructor
  · rintro ⟨h1, h2, h3⟩
    rw [← h1]
    split at h3
    · exact ⟨h2, rfl, h3.symm, by assumption⟩
    · omega
  · rintro ⟨h1, h2, h3, h4⟩
    rw [← h2] at h1 h3 h4
    rw [if_pos h4]
    exact ⟨h2, h1, h3.symm⟩

set_option maxHeartbeats 1000000 in
theorem areBeside_any (w : World) (p b : Bk) (hp : ordOk p.o) (h0 : 0 ≤ p.a) (h1 : p.a < 256) (hm : p.a % pw p.o = 0) :
    Calls Try.prog 98 #[.agg #[.int .i64 p.a, .int .i64 p.o, .int .i64 p.t], .agg #[.int .i64 b.a, .int .i64 b.o, .int .i64 b.t]] w fun e w' => e = .returned (.bool (areB p b)) ∧ Below w.heap.size w w' := by
  obtain ⟨pa, po, pt⟩ := p
  obtain ⟨ba, bo, bt⟩ := b
  dsimp only at hp h0 h1 hm ⊢
  obtain ⟨A, rfl⟩ : ∃ A : Nat, pa = A := ⟨pa.toNat, by omega⟩
  have hb2 : Below w.heap.size w ((w.alloc (.cells #[.int .i64 A, .int .i64 po, .int .i64 pt] 63)).alloc (.cells #[.int .i64 ba, .int .i64 bo, .int .i64 bt] 63)) := ((Below.refl _ _).alloc (Nat.le_refl _) _).alloc (by simp) _
  obtain ⟨r, hr⟩ : ∃ r, areB ⟨A, po, pt⟩ ⟨ba, bo, bt⟩ = r := ⟨_, rfl⟩
  rw [hr]
  have HR : Hid (areB ⟨A, po, pt⟩ ⟨ba, bo, bt⟩ = r) := hr
  clear hr
  by_cases q1 : po = bo
  · subst q1
    by_cases q2 : po < 4
    · have HC := fun W => (beside_any W A po hp q2 (by omega) hm).mono (fun e w' (g : e = .returned (.int .i64 (besideA A po)) ∧ W = w') => (show e = .returned (.int .i64 (besideA A po)) ∧ w' = W from ⟨g.1, g.2.symm⟩))
      have q2' : decide (po < 4) = true := decide_eq_true q2
      have HR2 : Hid (decide (ba = besideA A po) = r) := by show _ = _; rw [← HR.out]; unfold areB; simp [q2]
      obtain ⟨X, hX⟩ : ∃ X, besideA A po = X := ⟨_, rfl⟩
      rw [hX] at HC HR2
      clear hX HR hm
      go_enter Try.func98, Try.ntmps98
      go_wp2
      go_quiet ((go_at_call 105; exact Calls.quiet_of_same (HC _)))
      clear HC
      go_wp2
      go_ret
      exact ⟨ret_bool HR2.out, below_drewN hb2 _⟩
    · have HR2 : Hid (false = r) := by show _ = _; rw [← HR.out]; unfold areB; simp [q2]
      have q2' : decide (po < 4) = false := decide_eq_false q2
      clear HR hm
      go_enter Try.func98, Try.ntmps98
      go_wp2
      go_quiet (fail)
      go_wp2
      go_ret
      exact ⟨ret_bool HR2.out, below_drewN hb2 _⟩
  · have HR2 : Hid (false = r) := by show _ = _; rw [← HR.out]; unfold areB; simp [q1]
    have q1' : (po == bo) = false := by simpa using q1
    clear HR hm q1
    go_enter Try.func98, Try.ntmps98
    go_wp2
    go_quiet (fail)
    go_wp2
    go_ret
    exact ⟨ret_bool HR2.out, below_drewN hb2 _⟩

end Go.Proofs.Ytbjlbmofdnkmiaa

/-
  OWN TEXT. Contract of the code: buddy.areBounds.
-/
namespace Go.Proofs.Ytbjlbmofdnkmiaa
open Go Go.RowKit Go.Proofs.Ytbjlbmofdnkmiaa.Kit

/-- P3.1, decided. -/
def newB (f t : Int) : Bool := decide (0 ≤ f ∧ f ≤ t ∧ t ≤ 256 ∧ f % 16 = 0 ∧ t % 16 = 0)
theorem newB_iff (f t : Int) : newB f t = true ↔ newOk f t := by unfold newB newOk; simp
theorem newB_t {f t : Int} (h : newOk f t) : newB f t = true := (newB_iff f t).2 h
theorem newB_f {f t : Int} (h : ¬ newOk f t) : newB f t = false := by
  cases g : newB f t with
  | false => rfl
  | true => exact absurd ((newB_iff f t).1 g) h

set_option maxHeartbeats 1000000 in
theorem bounds_any (w : World) (f t : Int) :
    Calls Try.prog 74 #[.int .i64 f, .int .i64 t] w fun e w' => e = .returned (.bool (newB f t)) ∧ w = w' := by
  by_cases h1 : 0 ≤ f
  · by_cases h2 : f ≤ t
    · by_cases h3 : t ≤ 256
      · obtain ⟨F, rfl⟩ : ∃ F : Nat, f = F := ⟨f.toNat, by omega⟩
        obtain ⟨T, rfl⟩ : ∃ T : Nat, t = T := ⟨t.toNat, by omega⟩
        by_cases h4 : (F : Int) % 16 = 0
        · by_cases h5 : (T : Int) % 16 = 0
          · have HR : Hid (newB F T = true) := newB_t ⟨h1, h2, h3, h4, h5⟩
            go_enter Try.func74, Try.ntmps74
            go_wp2
            go_ret
            exact ⟨ret_bool HR.out.symm, rfl⟩
          · have HR : Hid (newB F T = false) := newB_f fun g => h5 g.2.2.2.2
            have h5' : ((T : Int) % 16 == 0) = false := by simpa using h5
            clear h5
            go_enter Try.func74, Try.ntmps74
            go_wp2
            go_ret
            exact ⟨ret_bool HR.out.symm, rfl⟩
        · have HR : Hid (newB F T = false) := newB_f fun g => h4 g.2.2.2.1
          have h4' : ((F : Int) % 16 == 0) = false := by simpa using h4
          clear h4
          go_enter Try.func74, Try.ntmps74
          go_wp2
          go_ret
          exact ⟨ret_bool HR.out.symm, rfl⟩
      · have HR : Hid (newB f t = false) := newB_f fun g => h3 g.2.2.1
        go_enter Try.func74, Try.ntmps74
        go_wp2
        go_ret
        exact ⟨ret_bool HR.out.symm, rfl⟩
    · have HR : Hid (newB f t = false) := newB_f fun g => h2 g.2.1
      go_enter Try.func74, Try.ntmps74
      go_wp2
      go_ret
      exact ⟨ret_bool HR.out.symm, rfl⟩
  · have HR : Hid (newB f t = false) := newB_f fun g => h1 g.1
    go_enter Try.func74, Try.ntmps74
    go_wp2
    go_ret
    exact ⟨ret_bool HR.out.symm, rfl⟩

end Go.Proofs.Ytbjlbmofdnkmiaa
