/-
  OWN TEXT. Contract of slices.Insert at one block: there is no room.
-/
import Derived.Test.YtamkgakhgfhmjaeBIns
namespace Go.Proofs.Ytamkgakhgfhmjae
open Go Go.RowKit Go.Proofs.Ytamkgakhgfhmjae.Kit

set_option maxHeartbeats 600000 in
theorem bIns_grow (w : World) (base g N cap i gv : Nat) (l : List Bk) (b : Bk) (hi : i < N) (hN : N ≤ 300) (hroom : cap = N) (own : w.ownsRow base 39 3 (.slice (some ⟨g, 0, none⟩) N cap) N (bvals l)) (hv : w.heap[gv]? = some (.cells #[.int .i64 b.a, .int .i64 b.o, .int .i64 b.t] 39 (0, 0))) (_hne : gv ≠ g) :
    Calls Try.prog 46 #[.slice (some ⟨g, 0, none⟩) N cap, .int .i64 i, .slice (some ⟨gv, 0, none⟩) 1 1] w fun e w' => RetRow w w' base g (N + 1) (insB l i b) e := by
  subst hroom
  obtain ⟨i1, hj, hy0, hy1, hy2⟩ := info_parts info_block
  have hll := bowns_len own
  obtain ⟨hbg, hnc, cur, R, hcur⟩ := Row.of own
  have hm := R.m
  have hml : cap + 1 ≤ maxLen := by unfold maxLen; omega
  unfold maxLen at hm
  have hRl := R.len
  have hvc : ∀ j v, ([.int .i64 b.a, .int .i64 b.o, .int .i64 b.t] : List Value)[j]? = some v → ∀ W : World, W.heap[gv]? = some (.cells #[.int .i64 b.a, .int .i64 b.o, .int .i64 b.t] 39 (0, 0)) → W.cell? ((⟨gv, 0, none⟩ : Addr).add j) = some v := by
    intro j v hjv W hW
    rw [add_at, Nat.zero_add]
    simp only [World.cell?, hW]
    simpa using hjv
  have hv1 : ∀ u ∈ ([.int .i64 b.a, .int .i64 b.o, .int .i64 b.t] : List Value), u.oneCell' = true := ints_oneCell .i64 [_, _, _]
  obtain ⟨vs, hvs⟩ : ∃ vs : List Value, [.int .i64 b.a, .int .i64 b.o, .int .i64 b.t] = vs := ⟨_, rfl⟩
  have hvl : vs.length = 3 := by rw [← hvs]; rfl
  have HVA : (#[.int .i64 b.a, .int .i64 b.o, .int .i64 b.t] : Array Value) = vs.toArray := by rw [← hvs]
  have HI : Hid (bvals (insB l i b) = bvals (l.take i) ++ (vs ++ bvals (l.drop i))) := by show _ = _; rw [insB_vals, hvs]
  rw [HVA] at hv hvc
  rw [hvs] at hvc hv1
  have HVC : Hid _ := hvc
  clear hvs HVA hvc
  have a1 : (i : Int) ≤ cap := by omega
  have a2 : ((1 : Int) == 0) = false := by decide
  have a3 : (cap : Int) ≤ cap := by omega
  obtain ⟨XS, hXS⟩ : ∃ XS, XS = bvals (l.drop i) := ⟨_, rfl⟩
  have hXl : XS.length = (cap - i) * 3 := by rw [hXS, length_bvals, List.length_drop, hll]
  have hX1 : ∀ u ∈ XS, u.oneCell' = true := by rw [hXS]; exact bvals_oneCell _
  have hXc : ∀ j u, XS[j]? = some u → cur[i * 3 + j]? = some u := by
    intro j u hu
    rw [hXS, ← bvals_drop, List.getElem?_drop] at hu
    rw [← hcur, List.getElem?_take] at hu
    split at hu
    · exact hu
    · cases hu
  have HI2 : Hid (bvals (insB l i b) = cur.take (i * 3) ++ (vs ++ XS)) := by
    show _ = _
    rw [HI.out, hXS, take_cut hcur (Nat.mul_le_mul_right 3 (show i ≤ cap by omega)), bvals_take]
  have HXc : Hid _ := hXc
  clear hXS hXc HI hcur
  have b1 : ((i : Int) == (cap : Int)) = false := by simp; omega
  have b2 : ¬ (cap = i) := by omega
  have b3 : (i : Int) ≤ (cap : Int) + 1 := by omega
  have b4 : (i : Int) + 1 ≤ (cap : Int) + 1 := by omega
  have b5 : ((i : Int) + 1).toNat = i + 1 := by omega
  have b6 : ((cap : Int) + 1).toNat = cap + 1 := by omega
  have b7 : (0 : Int) ≤ (i : Int) + 1 := by omega
  have b8 : (0 : Int) ≤ (cap : Int) + 1 := by omega
  have b9 : i ≤ cap := by omega
  have b10 : i ≤ cap := by omega
  have b11 : (i : Int) ≤ cap := by omega
  have bw : IntKind.i64.wrap ((i : Int) + 1) = (i : Int) + 1 := by rw [IntKind.wrap_i64]; omega
  obtain ⟨K, hK⟩ : ∃ K : Nat, (cap : Int) + 1 - i = (K : Int) := ⟨cap + 1 - i, by omega⟩
  obtain ⟨cap', W, cur', hrun, R', ht, hc', hb'⟩ := grow_zeros (P := Try.prog) w 22 3 22 39 i1 _ 3 .i64 .i64 Try.underlying22 Try.underlying3 hj hy0 hy1 (by omega) rfl ⟨g, 0, none⟩ i cap (cur.take (i * 3)) (by rw [List.length_take]; omega) (fun j v hj => by
    rw [add_at, Nat.zero_add, R.cell]
    rw [List.getElem?_take] at hj
    split at hj
    · exact hj
    · cases hj) K (by omega) (by omega) (by unfold maxLen; omega) (by rw [hy2]; omega)
  have hiK : i + K = cap + 1 := by omega
  rw [hiK] at hrun hc'
  have hcl' := R'.len
  have hg' := R.lt
  have HR : Hid _ := hrun
  have c1 : ¬ (cap' = i) := by omega
  have c2 : ¬ (cap' = i + 1) := by omega
  have c3 : (cap : Int) < (cap : Int) + 1 := by omega
  have hv3 : W.heap[gv]? = some (.cells vs.toArray 39 (0, 0)) := (hb'.block gv (Array.getElem?_eq_some_iff.1 hv).1).trans hv
  have RW := R.below hb'
  clear hrun own
  go_enter Try.func46, Try.ntmps46
  go_wp2_with (first
    | (at_builtin; refine Lib.wpList_append_run _ rfl (.tmp 34) (.tmp 39) 22 3 rfl _ _ rfl rfl _ _ HR.out ?_)
    | (refine wpList_copy_k rfl (.tmp 43) (.tmp 44) 22 22 rfl 39 3 Try.underlying22 size_block _ _ _ _ _ _ rfl rfl w.heap.size (i * 3) cur' 39 R'.h vs 1 (by simp only [Nat.min_def]; split <;> omega) hvl (fun _ => ⟨rfl, _, rfl, fun j v hj => HVC.out j v hj W hv3⟩) (by omega) hv1 ?_; intro w2 hg2 hb2))
  have RD := (RW.but hb2 (by omega)).below (Below.refl w2.heap.size w2).drew
  have hgd : w2.drew.heap[w.heap.size]? = some (.cells (splice cur' (i * 3) vs).toArray 39 (0, 0)) := hg2.out
  go_region_law (refine step_copy_k rfl (.tmp 50) (.tmp 53) 22 22 rfl 39 3 Try.underlying22 size_block (some ⟨w.heap.size, (i + 1) * 3, none⟩) (some ⟨g, i * 3, none⟩) (cap - i) (cap' - (i + 1)) (cap - i) (cap - i) (by simp [Act.eval, Act.put]) (by simp [Act.eval, Act.put]) w.heap.size ((i + 1) * 3) (splice cur' (i * 3) vs) 39 hgd XS (cap - i) (by simp only [Nat.min_def]; split <;> omega) hXl (fun _ => ⟨rfl, _, rfl, fun j v hj => by rw [add_at, RD.cell]; exact HXc.out j v hj⟩) (by rw [length_splice _ _ _ (by omega)]; omega) hX1 ?_; intro w3 hg3 hb3)
  all_goals
    clear RD
    go_wp2
    go_ret
    have e3 : (i + 1) * 3 = i * 3 + vs.length := by omega
    have hl2 : (splice (splice cur' (i * 3) vs) ((i + 1) * 3) XS).length = cap' * 3 := by rw [length_splice _ _ _ (by rw [length_splice _ _ _ (by omega)]; omega), length_splice _ _ _ (by omega)]; exact hcl'
    have R2 : Row w3 39 3 w.heap.size cap' (splice (splice cur' (i * 3) vs) ((i + 1) * 3) XS) := ⟨hg3.out, hl2, R'.m⟩
    refine ⟨w.heap.size, cap', rfl, R2.owns (by omega) hc' ?_, ?_, .inr (Nat.le_refl _)⟩
    · rw [HI2.out, e3, show (cap + 1) * 3 = i * 3 + vs.length + XS.length by omega, splice_two_a (by omega), ht]
    · have hbl : Below w.heap.size w w3 := hb'.trans ((hb2.trans ((But.of_below (Below.refl _ _).drew).trans hb3)).below (Nat.le_refl _) hb'.size)
      exact .of_below hbl

end Go.Proofs.Ytamkgakhgfhmjae
