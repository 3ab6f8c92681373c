/-
  OWN TEXT. The walk of the law MoveKeeps: it returns true and writes nothing that was there.
-/
import Derived.Test.YtlbilifiehddbabRamM
import Derived.Test.YtlbilifiehddbabSClone
import Derived.Test.YtlbilifiehddbabSEqual
import Derived.Test.YtlbilifiehddbabPicked
namespace Go.Proofs.Ytlbilifiehddbab
open Go Go.RowKit Go.Proofs.Ytlbilifiehddbab.Kit

theorem moveK_at (xs : List Int) (to from_ j i : Nat) (hi : i < xs.length) : (moveK xs to from_ j)[i]? = if to ≤ i ∧ i < to + j then some (xs.getD (from_ + (i - to)) 0) else xs[i]? := by
  induction j with
  | zero => rw [if_neg (by omega)]; rfl
  | succ j ih =>
    have hl := moveK_length xs to from_ j
    simp only [moveK, List.getElem?_set]
    by_cases h : to + j = i
    · rw [if_pos h, if_pos (by omega), if_pos (by omega)]
      congr 3; omega
    · rw [if_neg h, ih]
      by_cases h2 : to ≤ i ∧ i < to + j
      · rw [if_pos h2, if_pos (by omega)]
      · rw [if_neg h2, if_neg (by omega)]

theorem move_mid (xs : List Int) (a b k : Nat) (ha : a + k ≤ xs.length) (hb : b + k ≤ xs.length) : ((moveK xs a b k).drop a).take k = (xs.drop b).take k := by
  apply List.ext_getElem?
  intro i
  simp only [List.getElem?_take, List.getElem?_drop]
  by_cases h : i < k
  · rw [if_pos h, if_pos h, moveK_at _ _ _ _ _ (by omega), if_pos (by omega), List.getD_eq_getElem?_getD, show b + (a + i - a) = b + i by omega, List.getElem?_eq_getElem (show b + i < xs.length by omega)]
    rfl
  · rw [if_neg h, if_neg h]

theorem move_left (xs : List Int) (a b k : Nat) : (moveK xs a b k).take a = xs.take a := by
  apply List.ext_getElem?
  intro i
  simp only [List.getElem?_take]
  by_cases h : i < a
  · rw [if_pos h, if_pos h]
    by_cases hl : i < xs.length
    · rw [moveK_at _ _ _ _ _ hl, if_neg (by omega)]
    · rw [List.getElem?_eq_none (by rw [moveK_length]; omega), List.getElem?_eq_none (by omega)]
  · rw [if_neg h, if_neg h]

theorem move_right (xs : List Int) (a b k m : Nat) : ((moveK xs a b k).drop (a + k)).take m = (xs.drop (a + k)).take m := by
  apply List.ext_getElem?
  intro i
  simp only [List.getElem?_take, List.getElem?_drop]
  by_cases h : i < m
  · rw [if_pos h, if_pos h]
    by_cases hl : a + k + i < xs.length
    · rw [moveK_at _ _ _ _ _ hl, if_neg (by omega)]
    · rw [List.getElem?_eq_none (by rw [moveK_length]; omega), List.getElem?_eq_none (by omega)]
  · rw [if_neg h, if_neg h]

set_option maxHeartbeats 4000000 in
theorem moveKeeps_some (ao : Option Addr) (n cap : Nat) (xs : List Int) (to from_ num : Int) (w : World) (h : IsInts w ao n cap xs) (wf0 : (Lit.int .i64 to).wf = true) (wf1 : (Lit.int .i64 from_).wf = true) (wf2 : (Lit.int .i64 num).wf = true) (h40 : n ≤ 40) (ad : Addr) (hao : ao = some ad) :
    Calls Try.prog 4 #[.slice ao n cap, .int .i64 to, .int .i64 from_, .int .i64 num] w fun e w' => e = .returned (.bool true) ∧ Below w.heap.size w w' := by
  obtain ⟨hn, hle, hr, hnil, hx⟩ := h
  have h40' : ¬ (40 : Int) < n := by omega
  subst hao
  go_enter Try.func4, Try.ntmps4
  go_wp2_with fail
  go_at_call 11
  refine (sclone_some w ad n _ xs hn (by omega) hx).mono ?_
  rintro e w1 ⟨bo, c, rfl, hown1, hb1⟩
  have hc1 : n ≤ c := owns_cap hown1
  have i1 := ints_of_owns hown1
  have hny : xs.length = n := owns_len hown1
  go_wp2_with fail
  go_at_call 8
  refine (picked_int num _ (n + 1) (by omega) wf2 (by omega) (by omega) _).mono ?_
  rintro e w' ⟨⟨k, hk, rfl⟩, rfl⟩
  go_wp2_with fail
  go_at_call 8
  refine (picked_int to _ (n - k + 1) (by omega) wf0 (by omega) (by omega) _).mono ?_
  rintro e w' ⟨⟨a, ha, rfl⟩, rfl⟩
  go_wp2_with fail
  go_at_call 8
  refine (picked_int from_ _ (n - k + 1) (by omega) wf1 (by omega) (by omega) _).mono ?_
  rintro e w' ⟨⟨b, hb, rfl⟩, rfl⟩
  have ha' : a + k ≤ n := by omega
  have hb' : b + k ≤ n := by omega
  clear wf0 wf1 wf2 ha hb
  go_wp2_with fail
  go_at_call 12
  refine (move_yes w1 bo n c a b k xs hny (by omega) i1 ha' hb').mono ?_
  rintro e w2 ⟨xo, cx, rfl, hown2, hb2⟩
  have hcx : n ≤ cx := owns_cap hown2
  have i2 := ints_of_owns hown2
  have i1' := i1.below hb2
  have hB : Below w.heap.size w w2 := hb1.trans (hb2.mono hb1.size)
  have hlm := owns_len hown2
  clear hown1 hown2 i1 hx hb1 hb2
  by_cases hab : a < b
  · go_wp2_with fail
    go_at_call 12
    refine (move_no_int w2 bo n c a b (n - b + 1) _ (by omega) (by omega) (by omega) (by omega) (by omega)).mono ?_
    rintro e w' ⟨rfl, rfl⟩
    go_wp2_with fail
    have X1 : Hid (∀ d ao', (ao' = if cx = a then xo else xo.map (fun x => x.add a)) → IntsAt (w2.drewN d) ao' ((xs.drop b).take k)) := fun d ao' he => by
      rw [← move_mid xs a b k (by omega) (by omega)]; exact (cut_any i2 he (by omega) (by omega)).below (below_drawn d)
    have Y1 : Hid (∀ d ao', (ao' = if c = b then bo else bo.map (fun x => x.add b)) → IntsAt (w2.drewN d) ao' ((xs.drop b).take k)) := fun d ao' he =>
      (cut_any i1' he (by omega) (by omega)).below (below_drawn d)
    have X2 : Hid (∀ d, IntsAt (w2.drewN d) xo (xs.take a)) := fun d => by
      rw [← move_left xs a b k]; exact (cut_take i2).below (below_drawn d)
    have Y2 : Hid (∀ d, IntsAt (w2.drewN d) bo (xs.take a)) := fun d => (cut_take i1').below (below_drawn d)
    have X3 : Hid (∀ d ao', (ao' = if cx = a + k then xo else xo.map (fun x => x.add (a + k))) → IntsAt (w2.drewN d) ao' ((xs.drop (a + k)).take (n - (a + k)))) := fun d ao' he => by
      rw [← move_right xs a b k]; exact (cut_any i2 he (by omega) (by omega)).below (below_drawn d)
    have Y3 : Hid (∀ d ao', (ao' = if c = a + k then bo else bo.map (fun x => x.add (a + k))) → IntsAt (w2.drewN d) ao' ((xs.drop (a + k)).take (n - (a + k)))) := fun d ao' he =>
      (cut_any i1' he (by omega) (by omega)).below (below_drawn d)
    have L1 : Hid (((xs.drop b).take k).length = k) := by show _ = _; rw [List.length_take, List.length_drop]; omega
    have L2 : Hid ((xs.take a).length = a) := by show _ = _; rw [List.length_take]; omega
    have L3 : Hid (((xs.drop (a + k)).take (n - (a + k))).length = n - (a + k)) := by show _ = _; rw [List.length_take, List.length_drop]; omega
    clear i2 i1'
    go_quiet (first | (go_at_call 13; refine Calls.quiet_of (seq_eq _ _ _ _ _ _ _ L1.out (by omega) (X1.out _ _ ?_) (Y1.out _ _ ?_)) <;> first | rfl | exact (if_neg (by omega)).symm | exact (if_pos (by omega)).symm) | (go_at_call 13; exact Calls.quiet_of (seq_eq _ _ _ _ _ _ _ L2.out (by omega) (X2.out _) (Y2.out _))) | (go_at_call 13; refine Calls.quiet_of (seq_eq _ _ _ _ _ _ _ L3.out (by omega) (X3.out _ _ ?_) (Y3.out _ _ ?_)) <;> first | rfl | exact (if_neg (by omega)).symm | exact (if_pos (by omega)).symm))
    go_wp2
    all_goals go_ret
    all_goals exact ⟨rfl, hB.trans (below_drewN (Below.refl _ _) _)⟩
  · go_wp2_with fail
    go_at_call 12
    refine (move_no_int w2 bo n c a b (n - a + 1) _ (by omega) (by omega) (by omega) (by omega) (by omega)).mono ?_
    rintro e w' ⟨rfl, rfl⟩
    go_wp2_with fail
    have X1 : Hid (∀ d ao', (ao' = if cx = a then xo else xo.map (fun x => x.add a)) → IntsAt (w2.drewN d) ao' ((xs.drop b).take k)) := fun d ao' he => by
      rw [← move_mid xs a b k (by omega) (by omega)]; exact (cut_any i2 he (by omega) (by omega)).below (below_drawn d)
    have Y1 : Hid (∀ d ao', (ao' = if c = b then bo else bo.map (fun x => x.add b)) → IntsAt (w2.drewN d) ao' ((xs.drop b).take k)) := fun d ao' he =>
      (cut_any i1' he (by omega) (by omega)).below (below_drawn d)
    have X2 : Hid (∀ d, IntsAt (w2.drewN d) xo (xs.take a)) := fun d => by
      rw [← move_left xs a b k]; exact (cut_take i2).below (below_drawn d)
    have Y2 : Hid (∀ d, IntsAt (w2.drewN d) bo (xs.take a)) := fun d => (cut_take i1').below (below_drawn d)
    have X3 : Hid (∀ d ao', (ao' = if cx = a + k then xo else xo.map (fun x => x.add (a + k))) → IntsAt (w2.drewN d) ao' ((xs.drop (a + k)).take (n - (a + k)))) := fun d ao' he => by
      rw [← move_right xs a b k]; exact (cut_any i2 he (by omega) (by omega)).below (below_drawn d)
    have Y3 : Hid (∀ d ao', (ao' = if c = a + k then bo else bo.map (fun x => x.add (a + k))) → IntsAt (w2.drewN d) ao' ((xs.drop (a + k)).take (n - (a + k)))) := fun d ao' he =>
      (cut_any i1' he (by omega) (by omega)).below (below_drawn d)
    have L1 : Hid (((xs.drop b).take k).length = k) := by show _ = _; rw [List.length_take, List.length_drop]; omega
    have L2 : Hid ((xs.take a).length = a) := by show _ = _; rw [List.length_take]; omega
    have L3 : Hid (((xs.drop (a + k)).take (n - (a + k))).length = n - (a + k)) := by show _ = _; rw [List.length_take, List.length_drop]; omega
    clear i2 i1'
    go_quiet (first | (go_at_call 13; refine Calls.quiet_of (seq_eq _ _ _ _ _ _ _ L1.out (by omega) (X1.out _ _ ?_) (Y1.out _ _ ?_)) <;> first | rfl | exact (if_neg (by omega)).symm | exact (if_pos (by omega)).symm) | (go_at_call 13; exact Calls.quiet_of (seq_eq _ _ _ _ _ _ _ L2.out (by omega) (X2.out _) (Y2.out _))) | (go_at_call 13; refine Calls.quiet_of (seq_eq _ _ _ _ _ _ _ L3.out (by omega) (X3.out _ _ ?_) (Y3.out _ _ ?_)) <;> first | rfl | exact (if_neg (by omega)).symm | exact (if_pos (by omega)).symm))
    go_wp2
    all_goals go_ret
    all_goals exact ⟨rfl, hB.trans (below_drewN (Below.refl _ _) _)⟩


set_option maxHeartbeats 4000000 in
theorem moveKeeps_great (ao : Option Addr) (n cap : Nat) (xs : List Int) (to from_ num : Int) (w : World) (h : IsInts w ao n cap xs) (wf0 : (Lit.int .i64 to).wf = true) (wf1 : (Lit.int .i64 from_).wf = true) (wf2 : (Lit.int .i64 num).wf = true) (h40 : 40 < n) (ad : Addr) (hao : ao = some ad) :
    Calls Try.prog 4 #[.slice ao n cap, .int .i64 to, .int .i64 from_, .int .i64 num] w fun e w' => e = .returned (.bool true) ∧ Below w.heap.size w w' := by
  obtain ⟨hn, hle, hr, hnil, hx⟩ := h
  have h40' : (40 : Int) < n := by omega
  subst hao
  obtain ⟨ys, hys⟩ : ∃ ys, ys = xs.take 40 := ⟨_, rfl⟩
  have hyl : ys.length = 40 := by rw [hys]; simp; omega
  have hy : IntsAt w (some ad) ys := by rw [hys]; exact cut_take hx
  have hcap : (40 : Int) ≤ cap := by omega
  clear hys
  go_enter Try.func4, Try.ntmps4
  go_wp2_with fail
  go_at_call 11
  refine (sclone_some w ad 40 _ ys hyl (by omega) hy).mono ?_
  rintro e w1 ⟨bo, c, rfl, hown1, hb1⟩
  clear hy
  have hc1 : 40 ≤ c := owns_cap hown1
  have i1 := ints_of_owns hown1
  have hny : ys.length = 40 := owns_len hown1
  go_wp2_with fail
  go_at_call 8
  refine (picked_int num _ (40 + 1) (by omega) wf2 (by omega) (by omega) _).mono ?_
  rintro e w' ⟨⟨k, hk, rfl⟩, rfl⟩
  go_wp2_with fail
  go_at_call 8
  refine (picked_int to _ (40 - k + 1) (by omega) wf0 (by omega) (by omega) _).mono ?_
  rintro e w' ⟨⟨a, ha, rfl⟩, rfl⟩
  go_wp2_with fail
  go_at_call 8
  refine (picked_int from_ _ (40 - k + 1) (by omega) wf1 (by omega) (by omega) _).mono ?_
  rintro e w' ⟨⟨b, hb, rfl⟩, rfl⟩
  have ha' : a + k ≤ 40 := by omega
  have hb' : b + k ≤ 40 := by omega
  clear wf0 wf1 wf2 ha hb
  go_wp2_with fail
  go_at_call 12
  refine (move_yes w1 bo 40 c a b k ys hny (by omega) i1 ha' hb').mono ?_
  rintro e w2 ⟨xo, cx, rfl, hown2, hb2⟩
  have hcx : 40 ≤ cx := owns_cap hown2
  have i2 := ints_of_owns hown2
  have i1' := i1.below hb2
  have hB : Below w.heap.size w w2 := hb1.trans (hb2.mono hb1.size)
  have hlm := owns_len hown2
  clear hown1 hown2 i1 hx hb1 hb2
  by_cases hab : a < b
  · go_wp2_with fail
    go_at_call 12
    refine (move_no_int w2 bo 40 c a b (40 - b + 1) _ (by omega) (by omega) (by omega) (by omega) (by omega)).mono ?_
    rintro e w' ⟨rfl, rfl⟩
    go_wp2_with fail
    have X1 : Hid (∀ d ao', (ao' = if cx = a then xo else xo.map (fun x => x.add a)) → IntsAt (w2.drewN d) ao' ((ys.drop b).take k)) := fun d ao' he => by
      rw [← move_mid ys a b k (by omega) (by omega)]; exact (cut_any i2 he (by omega) (by omega)).below (below_drawn d)
    have Y1 : Hid (∀ d ao', (ao' = if c = b then bo else bo.map (fun x => x.add b)) → IntsAt (w2.drewN d) ao' ((ys.drop b).take k)) := fun d ao' he =>
      (cut_any i1' he (by omega) (by omega)).below (below_drawn d)
    have X2 : Hid (∀ d, IntsAt (w2.drewN d) xo (ys.take a)) := fun d => by
      rw [← move_left ys a b k]; exact (cut_take i2).below (below_drawn d)
    have Y2 : Hid (∀ d, IntsAt (w2.drewN d) bo (ys.take a)) := fun d => (cut_take i1').below (below_drawn d)
    have X3 : Hid (∀ d ao', (ao' = if cx = a + k then xo else xo.map (fun x => x.add (a + k))) → IntsAt (w2.drewN d) ao' ((ys.drop (a + k)).take (40 - (a + k)))) := fun d ao' he => by
      rw [← move_right ys a b k]; exact (cut_any i2 he (by omega) (by omega)).below (below_drawn d)
    have Y3 : Hid (∀ d ao', (ao' = if c = a + k then bo else bo.map (fun x => x.add (a + k))) → IntsAt (w2.drewN d) ao' ((ys.drop (a + k)).take (40 - (a + k)))) := fun d ao' he =>
      (cut_any i1' he (by omega) (by omega)).below (below_drawn d)
    have L1 : Hid (((ys.drop b).take k).length = k) := by show _ = _; rw [List.length_take, List.length_drop]; omega
    have L2 : Hid ((ys.take a).length = a) := by show _ = _; rw [List.length_take]; omega
    have L3 : Hid (((ys.drop (a + k)).take (40 - (a + k))).length = 40 - (a + k)) := by show _ = _; rw [List.length_take, List.length_drop]; omega
    clear i2 i1'
    go_quiet (first | (go_at_call 13; refine Calls.quiet_of (seq_eq _ _ _ _ _ _ _ L1.out (by omega) (X1.out _ _ ?_) (Y1.out _ _ ?_)) <;> first | rfl | exact (if_neg (by omega)).symm | exact (if_pos (by omega)).symm) | (go_at_call 13; exact Calls.quiet_of (seq_eq _ _ _ _ _ _ _ L2.out (by omega) (X2.out _) (Y2.out _))) | (go_at_call 13; refine Calls.quiet_of (seq_eq _ _ _ _ _ _ _ L3.out (by omega) (X3.out _ _ ?_) (Y3.out _ _ ?_)) <;> first | rfl | exact (if_neg (by omega)).symm | exact (if_pos (by omega)).symm))
    go_wp2
    all_goals go_ret
    all_goals exact ⟨rfl, hB.trans (below_drewN (Below.refl _ _) _)⟩
  · go_wp2_with fail
    go_at_call 12
    refine (move_no_int w2 bo 40 c a b (40 - a + 1) _ (by omega) (by omega) (by omega) (by omega) (by omega)).mono ?_
    rintro e w' ⟨rfl, rfl⟩
    go_wp2_with fail
    have X1 : Hid (∀ d ao', (ao' = if cx = a then xo else xo.map (fun x => x.add a)) → IntsAt (w2.drewN d) ao' ((ys.drop b).take k)) := fun d ao' he => by
      rw [← move_mid ys a b k (by omega) (by omega)]; exact (cut_any i2 he (by omega) (by omega)).below (below_drawn d)
    have Y1 : Hid (∀ d ao', (ao' = if c = b then bo else bo.map (fun x => x.add b)) → IntsAt (w2.drewN d) ao' ((ys.drop b).take k)) := fun d ao' he =>
      (cut_any i1' he (by omega) (by omega)).below (below_drawn d)
    have X2 : Hid (∀ d, IntsAt (w2.drewN d) xo (ys.take a)) := fun d => by
      rw [← move_left ys a b k]; exact (cut_take i2).below (below_drawn d)
    have Y2 : Hid (∀ d, IntsAt (w2.drewN d) bo (ys.take a)) := fun d => (cut_take i1').below (below_drawn d)
    have X3 : Hid (∀ d ao', (ao' = if cx = a + k then xo else xo.map (fun x => x.add (a + k))) → IntsAt (w2.drewN d) ao' ((ys.drop (a + k)).take (40 - (a + k)))) := fun d ao' he => by
      rw [← move_right ys a b k]; exact (cut_any i2 he (by omega) (by omega)).below (below_drawn d)
    have Y3 : Hid (∀ d ao', (ao' = if c = a + k then bo else bo.map (fun x => x.add (a + k))) → IntsAt (w2.drewN d) ao' ((ys.drop (a + k)).take (40 - (a + k)))) := fun d ao' he =>
      (cut_any i1' he (by omega) (by omega)).below (below_drawn d)
    have L1 : Hid (((ys.drop b).take k).length = k) := by show _ = _; rw [List.length_take, List.length_drop]; omega
    have L2 : Hid ((ys.take a).length = a) := by show _ = _; rw [List.length_take]; omega
    have L3 : Hid (((ys.drop (a + k)).take (40 - (a + k))).length = 40 - (a + k)) := by show _ = _; rw [List.length_take, List.length_drop]; omega
    clear i2 i1'
    go_quiet (first | (go_at_call 13; refine Calls.quiet_of (seq_eq _ _ _ _ _ _ _ L1.out (by omega) (X1.out _ _ ?_) (Y1.out _ _ ?_)) <;> first | rfl | exact (if_neg (by omega)).symm | exact (if_pos (by omega)).symm) | (go_at_call 13; exact Calls.quiet_of (seq_eq _ _ _ _ _ _ _ L2.out (by omega) (X2.out _) (Y2.out _))) | (go_at_call 13; refine Calls.quiet_of (seq_eq _ _ _ _ _ _ _ L3.out (by omega) (X3.out _ _ ?_) (Y3.out _ _ ?_)) <;> first | rfl | exact (if_neg (by omega)).symm | exact (if_pos (by omega)).symm))
    go_wp2
    all_goals go_ret
    all_goals exact ⟨rfl, hB.trans (below_drewN (Below.refl _ _) _)⟩


set_option maxHeartbeats 4000000 in
theorem moveKeeps_nil (ao : Option Addr) (n cap : Nat) (xs : List Int) (to from_ num : Int) (w : World) (h : IsInts w ao n cap xs) (wf0 : (Lit.int .i64 to).wf = true) (wf1 : (Lit.int .i64 from_).wf = true) (wf2 : (Lit.int .i64 num).wf = true) (hao : ao = none) :
    Calls Try.prog 4 #[.slice ao n cap, .int .i64 to, .int .i64 from_, .int .i64 num] w fun e w' => e = .returned (.bool true) ∧ Below w.heap.size w w' := by
  obtain ⟨hn, hle, hr, hnil, hx⟩ := h
  subst hao
  obtain ⟨rfl, rfl⟩ := hnil rfl
  go_enter Try.func4, Try.ntmps4
  go_wp2_with fail
  go_at_call 11
  refine (sclone_nil w).mono ?_
  rintro e w1 ⟨rfl, rfl⟩
  go_wp2_with fail
  go_at_call 8
  refine (picked_int num _ 1 (by rfl) wf2 (by omega) (by omega) _).mono ?_
  rintro e w' ⟨⟨k, hk, rfl⟩, rfl⟩
  obtain rfl : k = 0 := by omega
  go_wp2_with fail
  go_at_call 8
  refine (picked_int to _ 1 (by rfl) wf0 (by omega) (by omega) _).mono ?_
  rintro e w' ⟨⟨a, ha, rfl⟩, rfl⟩
  obtain rfl : a = 0 := by omega
  go_wp2_with fail
  go_at_call 8
  refine (picked_int from_ _ 1 (by rfl) wf1 (by omega) (by omega) _).mono ?_
  rintro e w' ⟨⟨b, hb, rfl⟩, rfl⟩
  obtain rfl : b = 0 := by omega
  clear wf0 wf1 wf2 ha hb hk hx hnil
  go_wp2_with fail
  go_at_call 12
  refine (move_yes w none 0 0 0 0 0 [] rfl (by omega) (IntsAt.nil _ _) (by omega) (by omega)).mono ?_
  rintro e w2 ⟨xo, cx, rfl, hown2, hb2⟩
  clear hown2
  go_wp2_with fail
  go_at_call 12
  refine (move_no_int w2 none 0 0 0 0 1 _ (by rfl) (by omega) (by omega) (by omega) (by omega)).mono ?_
  rintro e w' ⟨rfl, rfl⟩
  go_wp2_with fail
  go_quiet ((go_at_call 13; exact Calls.quiet_of (seq_eq _ _ _ 0 _ _ [] rfl (by omega) (IntsAt.nil _ _) (IntsAt.nil _ _))))
  go_wp2
  all_goals go_ret
  all_goals exact ⟨rfl, hb2.trans (below_drewN (Below.refl _ _) _)⟩

theorem moveKeeps_walk (ao : Option Addr) (n cap : Nat) (xs : List Int) (to from_ num : Int) (w : World) (h : IsInts w ao n cap xs) (wf0 : (Lit.int .i64 to).wf = true) (wf1 : (Lit.int .i64 from_).wf = true) (wf2 : (Lit.int .i64 num).wf = true) :
    Calls Try.prog 4 #[.slice ao n cap, .int .i64 to, .int .i64 from_, .int .i64 num] w fun e w' => e = .returned (.bool true) ∧ Below w.heap.size w w' := by
  cases hao : ao with
  | none => rw [← hao]; exact moveKeeps_nil ao n cap xs to from_ num w h wf0 wf1 wf2 hao
  | some ad =>
    rw [← hao]
    by_cases h40 : n ≤ 40
    · exact moveKeeps_some ao n cap xs to from_ num w h wf0 wf1 wf2 h40 ad hao
    · exact moveKeeps_great ao n cap xs to from_ num w h wf0 wf1 wf2 (by omega) ad hao

end Go.Proofs.Ytlbilifiehddbab
