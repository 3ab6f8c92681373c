/-
  OWN TEXT. Contract of slices.Delete at one block.
-/
import Derived.Test.YtamkgakhgfhmjaeZBase
import Derived.Test.YtamkgakhgfhmjaeAppK
namespace Go.Proofs.Ytamkgakhgfhmjae
open Go Go.RowKit Go.Proofs.Ytamkgakhgfhmjae.Kit

theorem zero_block : ∀ w, (zeroValue 39).run Try.prog w = .ok (.agg #[.int .i64 0, .int .i64 0, .int .i64 0]) w := fun w => by
  have h := info_block
  cases hq : Try.prog.info? 39 with
  | none => simp [hq] at h
  | some i =>
    simp [hq] at h
    simp [zeroValue, typeInfo, hq, h.1]

theorem zero_one : ∀ v ∈ (Value.agg #[.int .i64 0, .int .i64 0, .int .i64 0]).cells, v.oneCell' = true := by
  intro v hv
  have h : v ∈ (#[.int .i64 0, .int .i64 0, .int .i64 0] : Array Value) := hv
  simp at h
  subst h
  rfl

theorem bvals_take (l : List Bk) (i : Nat) : (bvals l).take (i * 3) = bvals (l.take i) := by
  induction l generalizing i with
  | nil => simp [bvals]
  | cons b l ih =>
    cases i with
    | zero => simp [bvals]
    | succ i => rw [Nat.succ_mul]; simp only [bvals, List.take_succ_cons, ih]
theorem bvals_drop (l : List Bk) (i : Nat) : (bvals l).drop (i * 3) = bvals (l.drop i) := by
  induction l generalizing i with
  | nil => simp [bvals]
  | cons b l ih =>
    cases i with
    | zero => simp [bvals]
    | succ i => rw [Nat.succ_mul]; simp only [bvals, List.drop_succ_cons, ih]
theorem take_cut {L X : List Value} {n m : Nat} (h : L.take n = X) (hm : m ≤ n) : L.take m = X.take m := by rw [← h, List.take_take, Nat.min_eq_left hm]

set_option maxHeartbeats 2000000 in
theorem bDel_any (w : World) (base g N cap i : Nat) (l : List Bk) (hi : i ≤ N) (hn : N ≤ 300) (own : w.ownsRow base 39 3 (.slice (some ⟨g, 0, none⟩) (N + 1) cap) (N + 1) (bvals l)) :
    Calls Try.prog 51 #[.slice (some ⟨g, 0, none⟩) (N + 1) cap, .int .i64 i, .int .i64 ((i : Int) + 1)] w fun e w' => e = .returned (.slice (some ⟨g, 0, none⟩) N cap) ∧
      w'.ownsRow base 39 3 (.slice (some ⟨g, 0, none⟩) N cap) N (bvals (l.eraseIdx i)) ∧ But g w w' := by
  obtain ⟨i1, hj, hy0, hy1, hy2⟩ := info_parts info_block
  have hll := bowns_len own
  obtain ⟨hbg, hnc, cur, R, hcur⟩ := Row.of own
  have hm := R.m
  unfold maxLen at hm
  have own1 : w.drew.ownsRow base 39 3 (.slice (some ⟨g, 0, none⟩) i cap) i (bvals (l.take i)) :=
    (R.below (Below.refl _ _).drew).owns hbg (by omega) (by rw [take_cut hcur (by omega), bvals_take])
  obtain ⟨news, hnews⟩ : ∃ news, news = bvals (l.drop (i + 1)) := ⟨_, rfl⟩
  have hnl : news.length = (N - i) * 3 := by rw [hnews, length_bvals, List.length_drop, hll]; omega
  have hn1 : ∀ u ∈ news, u.oneCell' = true := by rw [hnews]; exact bvals_oneCell _
  have hcell : ∀ j u, news[j]? = some u → w.drew.cell? ((⟨g, (i + 1) * 3, none⟩ : Addr).add j) = some u := by
    intro j u hu
    rw [add_at, (R.below (Below.refl _ _).drew).cell]
    rw [hnews, ← bvals_drop, List.getElem?_drop] at hu
    rw [← hcur, List.getElem?_take] at hu
    split at hu
    · exact hu
    · cases hu
  have HE : Hid (bvals (l.take i) ++ news = bvals (l.eraseIdx i)) := by
    show _ = _
    rw [hnews, ← bvals_append, List.eraseIdx_eq_take_drop_succ]
  have hsum : i + (N - i) = N := by omega
  have Hcell : Hid _ := hcell
  have Hnl : Hid _ := hnl
  clear hnews hcur own hcell hnl
  have h1 : (i : Int) + 1 ≤ N + 1 := by omega
  have h2 : i ≤ N + 1 := by omega
  have h3 : ((i : Int) == (i : Int) + 1) = false := by simp; omega
  have h4 : ((i : Int) + 1).toNat = i + 1 := by omega
  have h5 : i ≤ cap := by omega
  have h6 : ¬ (cap = N) := by omega
  have h7 : N + 1 - N = 1 := by omega
  have h8 : (i : Int) ≤ (cap : Int) := by omega
  have h9 : (i : Int) + 1 ≤ (cap : Int) := by omega
  have h10 : (i : Int) ≤ (N : Int) + 1 := by omega
  have h11 : (N : Int) ≤ (N : Int) + 1 := by omega
  have h12 : (N : Int) + 1 ≤ (cap : Int) := by omega
  have h13 : ((N : Int) + 1).toNat = N + 1 := by omega
  have h14 : ¬ (cap = i) := by omega
  have h15 : (0 : Int) ≤ (i : Int) + 1 := by omega
  by_cases hc' : cap = i + 1
  · have hc : (cap = i + 1) = True := eq_true hc'
    have HC : Hid (cap = i + 1) := hc'
    clear hc'
    go_enter Try.func51, Try.ntmps51
    go_wp2
    go_region_law (refine step_append_fits rfl (.tmp 22) (.tmp 25) 22 rfl 39 i1 3 Try.underlying22 hj hy1 base g i cap (bvals (l.take i)) (by simp [Act.eval, Act.put]) own1 (some ⟨g, 0, none⟩) (N - i) (cap - (i + 1)) news (by simp [Act.eval, Act.put]) Hnl.out ⟨_, rfl, fun j u hu => by have := Hnl.out; have hc' := HC.out; have h0 : news = [] := List.eq_nil_of_length_eq_zero (by omega); rw [h0] at hu; cases hu⟩ hn1 N hsum (by omega) ?_; intro w1 ho1 hb1)
    all_goals
      obtain ⟨_, _, cur1, R1, hcur1⟩ := Row.of ho1
      have hl1 := R1.len
      clear own1 Hcell Hnl hn1 ho1 R
      go_wp2_with (refine wpList_clear_k rfl (.tmp 31) 22 rfl 39 _ 3 Try.underlying22 zero_block rfl zero_one _ _ _ rfl g (N * 3) cur1 R1.h (fun _ => rfl) (by omega) ?_; intro w2 cur2 hg2 hb2)
      go_ret
      obtain ⟨g1, g2, g3⟩ := hg2.out
      have R2 : Row w2 39 3 g cap cur2 := ⟨g1, by rw [g2]; exact hl1, R1.m⟩
      exact ⟨rfl, R2.owns hbg (by omega) (by rw [g3, hcur1, HE.out]), ((But.of_below (Below.refl _ _).drew).trans hb1).trans hb2⟩
  · go_enter Try.func51, Try.ntmps51
    go_wp2
    go_region_law (refine step_append_fits rfl (.tmp 22) (.tmp 25) 22 rfl 39 i1 3 Try.underlying22 hj hy1 base g i cap (bvals (l.take i)) (by simp [Act.eval, Act.put]) own1 (some ⟨g, (i + 1) * 3, none⟩) (N - i) (cap - (i + 1)) news (by simp [Act.eval, Act.put]) Hnl.out ⟨_, rfl, Hcell.out⟩ hn1 N hsum (by omega) ?_; intro w1 ho1 hb1)
    all_goals
      obtain ⟨_, _, cur1, R1, hcur1⟩ := Row.of ho1
      have hl1 := R1.len
      clear own1 Hcell Hnl hn1 ho1 R
      go_wp2_with (refine wpList_clear_k rfl (.tmp 31) 22 rfl 39 _ 3 Try.underlying22 zero_block rfl zero_one _ _ _ rfl g (N * 3) cur1 R1.h (fun _ => rfl) (by omega) ?_; intro w2 cur2 hg2 hb2)
      go_ret
      obtain ⟨g1, g2, g3⟩ := hg2.out
      have R2 : Row w2 39 3 g cap cur2 := ⟨g1, by rw [g2]; exact hl1, R1.m⟩
      exact ⟨rfl, R2.owns hbg (by omega) (by rw [g3, hcur1, HE.out]), ((But.of_below (Below.refl _ _).drew).trans hb1).trans hb2⟩

end Go.Proofs.Ytamkgakhgfhmjae
