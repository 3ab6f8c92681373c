/-
  OWN TEXTS, bundled: BIns2, BIns3, BIns4, ZcPut, ZoT, ZcPut2, ZcBackI.
-/
import Derived.Test.YtbjlbmofdnkmiaaPagesFreesPart13
import Derived.Deep.RegionWith
import Derived.Test.YtbjlbmofdnkmiaaPagesFreesPart6
import Derived.Test.YtbjlbmofdnkmiaaPagesFreesPart2
import Derived.Test.YtbjlbmofdnkmiaaPagesFreesPart7
import Derived.Deep.RegionHeld3

/-
  OWN TEXT. Contract of slices.Insert at one block: there is room.
-/
namespace Go.Proofs.Ytbjlbmofdnkmiaa
open Go Go.RowKit Go.Proofs.Ytbjlbmofdnkmiaa.Kit

set_option maxHeartbeats 600000 in
theorem bIns_shift (w : World) (base g N cap i gv : Nat) (l : List Bk) (b : Bk) (hi : i < N) (hN : N ≤ 300) (hroom : N + 1 ≤ cap) (own : w.ownsRow base 63 3 (.slice (some ⟨g, 0, none⟩) N cap) N (bvals l)) (hv : w.heap[gv]? = some (.cells #[.int .i64 b.a, .int .i64 b.o, .int .i64 b.t] 63 (0, 0))) (hne : gv ≠ g) :
    Calls Try.prog 94 #[.slice (some ⟨g, 0, none⟩) N cap, .int .i64 i, .slice (some ⟨gv, 0, none⟩) 1 1] w fun e w' => RetRow w w' base g (N + 1) (insB l i b) e := by
  obtain ⟨i1, hj, hy0, hy1, hy2⟩ := info_parts info_block
  have hll := bowns_len own
  obtain ⟨hbg, hnc, cur, R, hcur⟩ := Row.of own
  have hm := R.m
  have hml : N + 1 ≤ maxLen := by unfold maxLen; omega
  unfold maxLen at hm
  have hRl := R.len
  have hvc : ∀ j v, ([.int .i64 b.a, .int .i64 b.o, .int .i64 b.t] : List Value)[j]? = some v → ∀ W : World, W.heap[gv]? = some (.cells #[.int .i64 b.a, .int .i64 b.o, .int .i64 b.t] 63 (0, 0)) → W.cell? ((⟨gv, 0, none⟩ : Addr).add j) = some v := by
    intro j v hjv W hW
    rw [add_at, Nat.zero_add]
    simp only [World.cell?, hW]
    simpa using hjv
  have hv1 : ∀ u ∈ ([.int .i64 b.a, .int .i64 b.o, .int .i64 b.t] : List Value), u.oneCell' = true := ints_oneCell .i64 [_, _, _]
  obtain ⟨vs, hvs⟩ : ∃ vs : List Value, [.int .i64 b.a, .int .i64 b.o, .int .i64 b.t] = vs := ⟨_, rfl⟩
  have hvl : vs.length = 3 := by rw [← hvs]; rfl
  have HVA : (#[.int .i64 b.a, .int .i64 b.o, .int .i64 b.t] : Array Value) = vs.toArray := by rw [← hvs]
  have HI : Hid (bvals (insB l i b) = bvals (l.take i) ++ (vs ++ bvals (l.drop i))) := by show _ = _; rw [insB_vals, hvs]
  rw [HVA] at hv hvc
  rw [hvs] at hvc hv1
  have HVC : Hid _ := hvc
  clear hvs HVA hvc
  have a1 : (i : Int) ≤ N := by omega
  have a2 : ((1 : Int) == 0) = false := by decide
  have a3 : (N : Int) ≤ cap := by omega
  obtain ⟨XS, hXS⟩ : ∃ XS, XS = bvals (l.drop i) := ⟨_, rfl⟩
  have hXl : XS.length = (N - i) * 3 := by rw [hXS, length_bvals, List.length_drop, hll]
  have hX1 : ∀ u ∈ XS, u.oneCell' = true := by rw [hXS]; exact bvals_oneCell _
  have hXc : ∀ j u, XS[j]? = some u → cur[i * 3 + j]? = some u := by
    intro j u hu
    rw [hXS, ← bvals_drop, List.getElem?_drop] at hu
    rw [← hcur, List.getElem?_take] at hu
    split at hu
    · exact hu
    · cases hu
  have HI2 : Hid (bvals (insB l i b) = cur.take (i * 3) ++ (vs ++ XS)) := by
    show _ = _
    rw [HI.out, hXS, take_cut hcur (Nat.mul_le_mul_right 3 (show i ≤ N by omega)), bvals_take]
  have HXc : Hid _ := hXc
  clear hXS hXc HI hcur
  have b1 : ((i : Int) == (N : Int)) = false := by simp; omega
  have b2 : ¬ (cap = i) := by omega
  have b3 : (i : Int) ≤ (N : Int) + 1 := by omega
  have b4 : (i : Int) + 1 ≤ (N : Int) + 1 := by omega
  have b5 : ((i : Int) + 1).toNat = i + 1 := by omega
  have b6 : ((N : Int) + 1).toNat = N + 1 := by omega
  have b7 : (0 : Int) ≤ (i : Int) + 1 := by omega
  have b8 : (0 : Int) ≤ (N : Int) + 1 := by omega
  have b9 : i ≤ N := by omega
  have b10 : i ≤ cap := by omega
  have b11 : (i : Int) ≤ cap := by omega
  have bw : IntKind.i64.wrap ((i : Int) + 1) = (i : Int) + 1 := by rw [IntKind.wrap_i64]; omega
  have hov : ∀ lb cb, (callFunc 107 #[.slice (some ⟨gv, 0, none⟩) 1 1, .slice (some ⟨g, (i + 1) * 3, none⟩) lb cb]).run Try.prog w = .ok (.value (.bool false)) w := fun lb cb => ov_false w g gv _ lb cb 1 1 cur vs cap 3 R hv hvl hne (by omega)
  have b12 : ¬ (cap = i + 1) := by omega
  have b13 : ¬ ((cap : Int) < (N : Int) + 1) := by omega
  have b14 : (N : Int) + 1 ≤ (cap : Int) := by omega
  have RD := R.below (Below.refl w.heap.size w).drew
  have hv2 : w.drew.heap[gv]? = some (.cells vs.toArray 63 (0, 0)) := hv
  clear own
  go_enter Try.func94, Try.ntmps94
  go_wp2_with (simp only [hov])
  go_region_law (refine step_copy_k rfl (.tmp 73) (.tmp 76) 26 26 rfl 63 3 Try.underlying26 size_block (some ⟨g, (i + 1) * 3, none⟩) (some ⟨g, i * 3, none⟩) (N - i) (cap - (i + 1)) (N + 1 - i) (cap - i) (by simp [Act.eval, Act.put]) (by simp [Act.eval, Act.put]) g ((i + 1) * 3) cur 63 RD.h XS (N - i) (by simp only [Nat.min_def]; split <;> omega) hXl (fun _ => ⟨rfl, _, rfl, fun j v hj => by rw [add_at, RD.cell]; exact HXc.out j v hj⟩) (by omega) hX1 ?_; intro w1 hg1 hb1)
  all_goals
    have hv3 : w1.heap[gv]? = some (.cells vs.toArray 63 (0, 0)) := (hb1.block gv (Array.getElem?_eq_some_iff.1 hv2).1 hne).trans hv2
    clear hov RD
    go_wp2_with (refine wpList_copy_k rfl (.tmp 80) (.tmp 81) 26 26 rfl 63 3 Try.underlying26 size_block _ _ _ _ _ _ rfl rfl g (i * 3) (splice cur ((i + 1) * 3) XS) 63 hg1.out vs 1 (by simp only [Nat.min_def]; split <;> omega) hvl (fun _ => ⟨rfl, _, rfl, fun j v hj => HVC.out j v hj w1 hv3⟩) (by rw [length_splice _ _ _ (by omega)]; omega) hv1 ?_; intro w2 hg2 hb2)
    go_ret
    have e3 : (i + 1) * 3 = i * 3 + vs.length := by omega
    have hl2 : (splice (splice cur ((i + 1) * 3) XS) (i * 3) vs).length = cap * 3 := by rw [length_splice _ _ _ (by rw [length_splice _ _ _ (by omega)]; omega), length_splice _ _ _ (by omega)]; exact hRl
    have R2 : Row w2 63 3 g cap (splice (splice cur ((i + 1) * 3) XS) (i * 3) vs) := ⟨hg2.out, hl2, R.m⟩
    refine ⟨g, cap, rfl, R2.owns hbg hroom ?_, ((But.of_below (Below.refl _ _).drew).trans hb1).trans hb2, .inl rfl⟩
    rw [HI2.out, e3, show (N + 1) * 3 = i * 3 + vs.length + XS.length by omega]
    exact splice_two_b (by omega)

end Go.Proofs.Ytbjlbmofdnkmiaa

/-
  OWN TEXT. Contract of slices.Insert at one block: there is no room.
-/
namespace Go.Proofs.Ytbjlbmofdnkmiaa
open Go Go.RowKit Go.Proofs.Ytbjlbmofdnkmiaa.Kit

set_option maxHeartbeats 600000 in
theorem bIns_grow (w : World) (base g N cap i gv : Nat) (l : List Bk) (b : Bk) (hi : i < N) (hN : N ≤ 300) (hroom : cap = N) (own : w.ownsRow base 63 3 (.slice (some ⟨g, 0, none⟩) N cap) N (bvals l)) (hv : w.heap[gv]? = some (.cells #[.int .i64 b.a, .int .i64 b.o, .int .i64 b.t] 63 (0, 0))) (_hne : gv ≠ g) :
    Calls Try.prog 94 #[.slice (some ⟨g, 0, none⟩) N cap, .int .i64 i, .slice (some ⟨gv, 0, none⟩) 1 1] w fun e w' => RetRow w w' base g (N + 1) (insB l i b) e := by
  subst hroom
  obtain ⟨i1, hj, hy0, hy1, hy2⟩ := info_parts info_block
  have hll := bowns_len own
  obtain ⟨hbg, hnc, cur, R, hcur⟩ := Row.of own
  have hm := R.m
  have hml : cap + 1 ≤ maxLen := by unfold maxLen; omega
  unfold maxLen at hm
  have hRl := R.len
  have hvc : ∀ j v, ([.int .i64 b.a, .int .i64 b.o, .int .i64 b.t] : List Value)[j]? = some v → ∀ W : World, W.heap[gv]? = some (.cells #[.int .i64 b.a, .int .i64 b.o, .int .i64 b.t] 63 (0, 0)) → W.cell? ((⟨gv, 0, none⟩ : Addr).add j) = some v := by
    intro j v hjv W hW
    rw [add_at, Nat.zero_add]
    simp only [World.cell?, hW]
    simpa using hjv
  have hv1 : ∀ u ∈ ([.int .i64 b.a, .int .i64 b.o, .int .i64 b.t] : List Value), u.oneCell' = true := ints_oneCell .i64 [_, _, _]
  obtain ⟨vs, hvs⟩ : ∃ vs : List Value, [.int .i64 b.a, .int .i64 b.o, .int .i64 b.t] = vs := ⟨_, rfl⟩
  have hvl : vs.length = 3 := by rw [← hvs]; rfl
  have HVA : (#[.int .i64 b.a, .int .i64 b.o, .int .i64 b.t] : Array Value) = vs.toArray := by rw [← hvs]
  have HI : Hid (bvals (insB l i b) = bvals (l.take i) ++ (vs ++ bvals (l.drop i))) := by show _ = _; rw [insB_vals, hvs]
  rw [HVA] at hv hvc
  rw [hvs] at hvc hv1
  have HVC : Hid _ := hvc
  clear hvs HVA hvc
  have a1 : (i : Int) ≤ cap := by omega
  have a2 : ((1 : Int) == 0) = false := by decide
  have a3 : (cap : Int) ≤ cap := by omega
  obtain ⟨XS, hXS⟩ : ∃ XS, XS = bvals (l.drop i) := ⟨_, rfl⟩
  have hXl : XS.length = (cap - i) * 3 := by rw [hXS, length_bvals, List.length_drop, hll]
  have hX1 : ∀ u ∈ XS, u.oneCell' = true := by rw [hXS]; exact bvals_oneCell _
  have hXc : ∀ j u, XS[j]? = some u → cur[i * 3 + j]? = some u := by
    intro j u hu
    rw [hXS, ← bvals_drop, List.getElem?_drop] at hu
    rw [← hcur, List.getElem?_take] at hu
    split at hu
    · exact hu
    · cases hu
  have HI2 : Hid (bvals (insB l i b) = cur.take (i * 3) ++ (vs ++ XS)) := by
    show _ = _
    rw [HI.out, hXS, take_cut hcur (Nat.mul_le_mul_right 3 (show i ≤ cap by omega)), bvals_take]
  have HXc : Hid _ := hXc
  clear hXS hXc HI hcur
  have b1 : ((i : Int) == (cap : Int)) = false := by simp; omega
  have b2 : ¬ (cap = i) := by omega
  have b3 : (i : Int) ≤ (cap : Int) + 1 := by omega
  have b4 : (i : Int) + 1 ≤ (cap : Int) + 1 := by omega
  have b5 : ((i : Int) + 1).toNat = i + 1 := by omega
  have b6 : ((cap : Int) + 1).toNat = cap + 1 := by omega
  have b7 : (0 : Int) ≤ (i : Int) + 1 := by omega
  have b8 : (0 : Int) ≤ (cap : Int) + 1 := by omega
  have b9 : i ≤ cap := by omega
  have b10 : i ≤ cap := by omega
  have b11 : (i : Int) ≤ cap := by omega
  have bw : IntKind.i64.wrap ((i : Int) + 1) = (i : Int) + 1 := by rw [IntKind.wrap_i64]; omega
  obtain ⟨K, hK⟩ : ∃ K : Nat, (cap : Int) + 1 - i = (K : Int) := ⟨cap + 1 - i, by omega⟩
  obtain ⟨cap', W, cur', hrun, R', ht, hc', hb'⟩ := grow_zeros (P := Try.prog) w 26 3 26 63 i1 _ 3 .i64 .i64 Try.underlying26 Try.underlying3 hj hy0 hy1 (by omega) rfl ⟨g, 0, none⟩ i cap (cur.take (i * 3)) (by rw [List.length_take]; omega) (fun j v hj => by
    rw [add_at, Nat.zero_add, R.cell]
    rw [List.getElem?_take] at hj
    split at hj
    · exact hj
    · cases hj) K (by omega) (by omega) (by unfold maxLen; omega) (by rw [hy2]; omega)
  have hiK : i + K = cap + 1 := by omega
  rw [hiK] at hrun hc'
  have hcl' := R'.len
  have hg' := R.lt
  have HR : Hid _ := hrun
  have c1 : ¬ (cap' = i) := by omega
  have c2 : ¬ (cap' = i + 1) := by omega
  have c3 : (cap : Int) < (cap : Int) + 1 := by omega
  have hv3 : W.heap[gv]? = some (.cells vs.toArray 63 (0, 0)) := (hb'.block gv (Array.getElem?_eq_some_iff.1 hv).1).trans hv
  have RW := R.below hb'
  clear hrun own
  go_enter Try.func94, Try.ntmps94
  go_wp2_with (first
    | (at_builtin; refine Lib.wpList_append_run _ rfl (.tmp 34) (.tmp 39) 26 3 rfl _ _ rfl rfl _ _ HR.out ?_)
    | (refine wpList_copy_k rfl (.tmp 43) (.tmp 44) 26 26 rfl 63 3 Try.underlying26 size_block _ _ _ _ _ _ rfl rfl w.heap.size (i * 3) cur' 63 R'.h vs 1 (by simp only [Nat.min_def]; split <;> omega) hvl (fun _ => ⟨rfl, _, rfl, fun j v hj => HVC.out j v hj W hv3⟩) (by omega) hv1 ?_; intro w2 hg2 hb2))
  have RD := (RW.but hb2 (by omega)).below (Below.refl w2.heap.size w2).drew
  have hgd : w2.drew.heap[w.heap.size]? = some (.cells (splice cur' (i * 3) vs).toArray 63 (0, 0)) := hg2.out
  go_region_law (refine step_copy_k rfl (.tmp 50) (.tmp 53) 26 26 rfl 63 3 Try.underlying26 size_block (some ⟨w.heap.size, (i + 1) * 3, none⟩) (some ⟨g, i * 3, none⟩) (cap - i) (cap' - (i + 1)) (cap - i) (cap - i) (by simp [Act.eval, Act.put]) (by simp [Act.eval, Act.put]) w.heap.size ((i + 1) * 3) (splice cur' (i * 3) vs) 63 hgd XS (cap - i) (by simp only [Nat.min_def]; split <;> omega) hXl (fun _ => ⟨rfl, _, rfl, fun j v hj => by rw [add_at, RD.cell]; exact HXc.out j v hj⟩) (by rw [length_splice _ _ _ (by omega)]; omega) hX1 ?_; intro w3 hg3 hb3)
  all_goals
    clear RD
    go_wp2
    go_ret
    have e3 : (i + 1) * 3 = i * 3 + vs.length := by omega
    have hl2 : (splice (splice cur' (i * 3) vs) ((i + 1) * 3) XS).length = cap' * 3 := by rw [length_splice _ _ _ (by rw [length_splice _ _ _ (by omega)]; omega), length_splice _ _ _ (by omega)]; exact hcl'
    have R2 : Row w3 63 3 w.heap.size cap' (splice (splice cur' (i * 3) vs) ((i + 1) * 3) XS) := ⟨hg3.out, hl2, R'.m⟩
    refine ⟨w.heap.size, cap', rfl, R2.owns (by omega) hc' ?_, ?_, .inr (Nat.le_refl _)⟩
    · rw [HI2.out, e3, show (cap + 1) * 3 = i * 3 + vs.length + XS.length by omega, splice_two_a (by omega), ht]
    · have hbl : Below w.heap.size w w3 := hb'.trans ((hb2.trans ((But.of_below (Below.refl _ _).drew).trans hb3)).below (Nat.le_refl _) hb'.size)
      exact .of_below hbl

end Go.Proofs.Ytbjlbmofdnkmiaa

/-
  OWN TEXT. Contract of slices.Insert at one block: all ways.
-/
namespace Go.Proofs.Ytbjlbmofdnkmiaa
open Go Go.RowKit Go.Proofs.Ytbjlbmofdnkmiaa.Kit

theorem bIns_any (w : World) (base g N cap i gv : Nat) (l : List Bk) (b : Bk) (hi : i ≤ N) (hN : N ≤ 300) (own : w.ownsRow base 63 3 (.slice (some ⟨g, 0, none⟩) N cap) N (bvals l)) (hv : w.heap[gv]? = some (.cells #[.int .i64 b.a, .int .i64 b.o, .int .i64 b.t] 63 (0, 0))) (hne : gv ≠ g) :
    Calls Try.prog 94 #[.slice (some ⟨g, 0, none⟩) N cap, .int .i64 i, .slice (some ⟨gv, 0, none⟩) 1 1] w fun e w' => RetRow w w' base g (N + 1) (insB l i b) e := by
  have := owns_cap own
  by_cases h1 : i = N
  · exact bIns_end w base g N cap i gv l b h1 hN own hv hne
  · by_cases h2 : N + 1 ≤ cap
    · exact bIns_shift w base g N cap i gv l b (by omega) hN h2 own hv hne
    · exact bIns_grow w base g N cap i gv l b (by omega) hN (by omega) own hv hne

end Go.Proofs.Ytbjlbmofdnkmiaa

/-
  OWN TEXT. Contract of the code: buddy.put.
-/
namespace Go.Proofs.Ytbjlbmofdnkmiaa
open Go Go.RowKit Go.Proofs.Ytbjlbmofdnkmiaa.Kit

theorem shl_one (o : Int) (h : ordOk o) (W : World) : (binOp .shl 3 (.int .i64 1) (.int .i64 o)).run Try.prog W = .ok (.int .i64 (pw o)) W := by
  rcases ord_cases h with ⟨rfl, e⟩ | ⟨rfl, e⟩ | ⟨rfl, e⟩ | ⟨rfl, e⟩ | ⟨rfl, e⟩ <;> (rw [e]; rfl)

set_option maxHeartbeats 2000000 in
theorem putF1_any (W : World) (b1 b2 : Nat) (E a : Int) (ba bo bt : Int) (c1 : W.cell? ⟨b1, 0, none⟩ = some (.int .i64 E)) (c2 : W.cell? ⟨b2, 0, none⟩ = some (.int .i64 a)) (ho : ordOk bo) (h0 : 0 ≤ ba) (h1 : ba ≤ 256) :
    Calls Try.prog 90 (#[.agg #[.int .i64 ba, .int .i64 bo, .int .i64 bt]] ++ #[.pointer (some ⟨b1, 0, none⟩), .pointer (some ⟨b2, 0, none⟩)]) W fun e W' => e = .returned (.bool (ovl1 E a ⟨ba, bo, bt⟩)) ∧ Below W.heap.size W W' := by
  have hb0 := below_box W (.cells #[.int .i64 ba, .int .i64 bo, .int .i64 bt] 63)
  have d1 := keep c1 hb0
  have d2 := keep c2 hb0
  have l0 : (W.alloc (.cells #[.int .i64 ba, .int .i64 bo, .int .i64 bt] 63)).cell? ⟨W.heap.size, 0, none⟩ = some (.int .i64 ba) := by go_simp
  have l1 : (W.alloc (.cells #[.int .i64 ba, .int .i64 bo, .int .i64 bt] 63)).cell? ⟨W.heap.size, 1, none⟩ = some (.int .i64 bo) := by go_simp
  have l2 : (W.alloc (.cells #[.int .i64 ba, .int .i64 bo, .int .i64 bt] 63)).cell? ⟨W.heap.size, 2, none⟩ = some (.int .i64 bt) := by go_simp
  obtain ⟨W0, hW0⟩ : ∃ W0, W.alloc (.cells #[.int .i64 ba, .int .i64 bo, .int .i64 bt] 63) = W0 := ⟨_, rfl⟩
  rw [hW0] at hb0 d1 d2 l0 l1 l2
  have HW0 : Hid _ := hW0
  obtain ⟨T, hT⟩ : ∃ T, ba + pw bo = T := ⟨_, rfl⟩
  have HB : Hid (∀ V, Below W0.heap.size W0 V → Calls Try.prog 91 #[.agg #[.int .i64 ba, .int .i64 bo, .int .i64 bt]] V fun e w' => e = .returned (.int .i64 T) ∧ Below W0.heap.size W0 w') := fun V hS => by
    rw [← hT]
    refine (behind_any V ba bo bt ho h0 h1).mono ?_
    rintro e w' ⟨rfl, hb⟩
    exact ⟨rfl, hS.trans (hb.mono hS.size)⟩
  have S0 : Below W0.heap.size W0 W0 := Below.refl _ _
  have m1 : ∀ wx, Below W0.heap.size W0 wx → wx.cell? ⟨b1, 0, none⟩ = some (.int .i64 E) := fun wx h => keep d1 h
  have m2 : ∀ wx, Below W0.heap.size W0 wx → wx.cell? ⟨b2, 0, none⟩ = some (.int .i64 a) := fun wx h => keep d2 h
  clear c1 c2 hW0
  by_cases g1 : ba < E
  · have HF : Hid (decide (a < T) = ovl1 E a ⟨ba, bo, bt⟩) := by
      show _ = decide (_ ∧ _)
      rw [← hT]; simp [g1]
    have g1' : decide (ba < E) = true := decide_eq_true g1
    clear hT
    go_enter Try.func90, Try.ntmps90
    go_wp2_with (rw [HW0.out])
    go_region_with (first | (go_at_call 91; refine (HB.out _ ?_).mono ?_; (first | exact Below.drew S0 | assumption); rintro e w6 ⟨rfl, hS6⟩; have a0 := m1 _ hS6; have a1 := m2 _ hS6))
    all_goals
      go_wp2
      go_ret
      exact ⟨ret_bool HF.out, hb0.trans (hS6.mono hb0.size)⟩
  · have HF : Hid (false = ovl1 E a ⟨ba, bo, bt⟩) := by
      show _ = decide (_ ∧ _)
      simp [g1]
    have g1' : decide (ba < E) = false := decide_eq_false g1
    clear hT
    go_enter Try.func90, Try.ntmps90
    go_wp2_with (rw [HW0.out])
    go_region_with (first | (go_at_call 91; refine (HB.out _ ?_).mono ?_; (first | exact Below.drew S0 | assumption); rintro e w6 ⟨rfl, hS6⟩; have a0 := m1 _ hS6; have a1 := m2 _ hS6))
    all_goals
      go_wp2
      go_ret
      exact ⟨ret_bool HF.out, hb0.trans ((Below.drew S0).mono hb0.size)⟩
theorem putF1_call (args : Array Value) (W : World) : (callFunc 90 args).run Try.prog W = .ok (.enter 90 args) W := by kernel_rfl

set_option maxHeartbeats 1000000 in
theorem putF2_any (W : World) (b1 : Nat) (a : Int) (ba bo bt : Int) (c1 : W.cell? ⟨b1, 0, none⟩ = some (.int .i64 a)) :
    Calls Try.prog 93 (#[.agg #[.int .i64 ba, .int .i64 bo, .int .i64 bt]] ++ #[.pointer (some ⟨b1, 0, none⟩)]) W fun e W' => e = .returned (.bool (decide (a < ba))) ∧ Below W.heap.size W W' := by
  have hb0 := below_box W (.cells #[.int .i64 ba, .int .i64 bo, .int .i64 bt] 63)
  have d1 := keep c1 hb0
  clear c1
  go_enter Try.func93, Try.ntmps93
  go_wp2
  go_ret
  exact ⟨rfl, hb0⟩
theorem putF2_call (args : Array Value) (W : World) : (callFunc 93 args).run Try.prog W = .ok (.enter 93 args) W := by kernel_rfl

/-- The place of a new block. -/
theorem addB_at {l : List Bk} {b : Bk} {i : Nat} (hi : i ≤ l.length) (h1 : ∀ j, j < i → ¬ b.a < (l.getD j .zero).a) (h2 : i < l.length → b.a < (l.getD i .zero).a) : addB l b = insB l i b := by
  induction l generalizing i with
  | nil => obtain rfl : i = 0 := by simpa using hi
           rfl
  | cons x l ih =>
    cases i with
    | zero =>
      have : x.a > b.a := by have := h2 (by simp); simpa using this
      unfold addB
      rw [if_pos this]
      rfl
    | succ i =>
      have : ¬ x.a > b.a := by have := h1 0 (by omega); simpa using this
      unfold addB
      rw [if_neg this, ih (by simpa using hi) (fun j hj => by have := h1 (j + 1) (by omega); simpa using this) (fun hh => by have := h2 (by simpa using hh); simpa using this)]
      rfl

end Go.Proofs.Ytbjlbmofdnkmiaa

/-
  OWN TEXT. A zone behind a pointer whose two rows the call owns.
-/
namespace Go.Proofs.Ytbjlbmofdnkmiaa
open Go Go.RowKit Go.Proofs.Ytbjlbmofdnkmiaa.Kit

/-- A zone behind a pointer whose two rows the call owns. -/
structure Zo (w : World) (base zb g n cap k tn tk : Nat) (z : Zn) : Prop where
  box : ZBox w zb (.int .i64 z.f) (.int .i64 z.t) (.slice (some ⟨g, 0, none⟩) n cap) (.slice (some ⟨k, 0, none⟩) tn tk)
  own : w.ownsRow base 63 3 (.slice (some ⟨g, 0, none⟩) n cap) n (bvals z.free)
  typ : w.ownsRow base 3 1 (.slice (some ⟨k, 0, none⟩) tn tk) tn (vals z.types)
  gz : g ≠ zb
  kz : k ≠ zb
  gk : g ≠ k

theorem Zo.below {w w' : World} {base zb g n cap k tn tk : Nat} {z : Zn} (h : Zo w base zb g n cap k tn tk z) (hb : Below w.heap.size w w') : Zo w' base zb g n cap k tn tk z :=
  ⟨h.box.below hb, owns_below h.own hb (Nat.le_refl _), owns_below h.typ hb (Nat.le_refl _), h.gz, h.kz, h.gk⟩
theorem Zo.glt {w : World} {base zb g n cap k tn tk : Nat} {z : Zn} (h : Zo w base zb g n cap k tn tk z) : g < w.heap.size := (h.own.lt _ rfl).2
theorem Zo.klt {w : World} {base zb g n cap k tn tk : Nat} {z : Zn} (h : Zo w base zb g n cap k tn tk z) : k < w.heap.size := (h.typ.lt _ rfl).2

end Go.Proofs.Ytbjlbmofdnkmiaa

/-
  OWN TEXT. Contract of the code: buddy.put, whole.
-/
namespace Go.Proofs.Ytbjlbmofdnkmiaa
open Go Go.RowKit Go.Proofs.Ytbjlbmofdnkmiaa.Kit

theorem may_len {z : Zn} (h : ZMay z) : z.free.length ≤ 256 := by
  have := freeOk_count h.free h.new.2.2.2.2 h.new.2.1
  have := h.new.2.2.1
  have := h.new.1
  omega
theorem may_blk {z : Zn} (h : ZMay z) : ∀ b ∈ z.free, blkIn z.f z.t b.a b.o := by
  intro b hb
  obtain ⟨i, hi, rfl⟩ := List.getElem_of_mem hb
  have := (freeOk_at h.free hi rfl).1
  rw [List.getD_eq_getElem?_getD, List.getElem?_eq_getElem hi] at this
  exact this

theorem wrap_pw (o : Int) (h : ordOk o) : IntKind.i64.wrap ((2 : Int) ^ o.toNat) = pw o := by
  rcases ord_cases h with ⟨rfl, e⟩ | ⟨rfl, e⟩ | ⟨rfl, e⟩ | ⟨rfl, e⟩ | ⟨rfl, e⟩ <;> (rw [e]; rfl)

set_option maxHeartbeats 4000000 in
theorem put_twice (w : World) (base zb g n cap k tn tk : Nat) (z : Zn) (a o : Int) (Z : Zo w base zb g n cap k tn tk z) (hM : ZMay z) (hA : blkIn z.f z.t a o) (hv : ovlP z.free a o) :
    Calls Try.prog 75 #[.pointer (some ⟨zb, 0, none⟩), .int .i64 a, .int .i64 o] w fun e w' => e = .returned (.int .i64 5) ∧ Below w.heap.size w w' := by
  obtain ⟨⟨o0, o4⟩, a1, a2, a3⟩ := id hA
  obtain ⟨n1, n2, n3, n4, n5⟩ := hM.new
  have hzl := Z.box.lt
  have hgl := Z.glt
  have hkl := Z.klt
  have hp1 := pw_pos o
  have hp2 := pw_le (o := o) ⟨o0, o4⟩
  have hw1 := wrap_pw o ⟨o0, o4⟩
  obtain ⟨P, hP⟩ : ∃ P, pw o = P := ⟨_, rfl⟩
  have HP : Hid (pw o = P) := hP
  rw [hP] at hw1 hp1 hp2
  have hw2 : IntKind.i64.wrap (a + P) = a + P := IntWalk.i64_in _ (by omega)
  have s0 : (w.alloc (.cells #[.int .i64 a] 3)).cell? ⟨w.heap.size, 0, none⟩ = some (.int .i64 a) := by simp
  have hb1 : Below w.heap.size w (((w.alloc (.cells #[.int .i64 a] 3)).alloc (.cells #[.int .i64 (a + P)] 3)).drew) := (((Below.refl _ _).alloc (Nat.le_refl _) _).alloc (by simp) _).drew
  have p1 : (((w.alloc (.cells #[.int .i64 a] 3)).alloc (.cells #[.int .i64 (a + P)] 3)).drew).cell? ⟨w.heap.size, 0, none⟩ = some (.int .i64 a) := by go_simp
  have p2 : (((w.alloc (.cells #[.int .i64 a] 3)).alloc (.cells #[.int .i64 (a + P)] 3)).drew).cell? ⟨w.heap.size + 1, 0, none⟩ = some (.int .i64 (a + P)) := by go_simp
  have p3 : (((w.alloc (.cells #[.int .i64 a] 3)).alloc (.cells #[.int .i64 (a + P)] 3)).drew).frozen? ⟨w.heap.size, 0, none⟩ = false := by go_simp
  have p4 : (((w.alloc (.cells #[.int .i64 a] 3)).alloc (.cells #[.int .i64 (a + P)] 3)).drew).heap.size = w.heap.size + 2 := by simp
  obtain ⟨W1, hW1⟩ : ∃ W1, ((w.alloc (.cells #[.int .i64 a] 3)).alloc (.cells #[.int .i64 (a + P)] 3)).drew = W1 := ⟨_, rfl⟩
  have HW1 : Hid _ := hW1
  rw [hW1] at hb1 p1 p2 p3 p4
  have Z1 := Z.below hb1
  have y2 := Z1.box.c2
  have hlen := bowns_len Z1.own
  have hl256 := may_len hM
  have hHold : HoldsB 90 #[.pointer (some ⟨w.heap.size + 1, 0, none⟩), .pointer (some ⟨w.heap.size, 0, none⟩)] z.free (ovl1 (a + P) a) W1 := fun i hi W hb => by
    have hB := (freeOk_at hM.free hi rfl).1
    exact putF1_any W _ _ (a + P) a _ _ _ (keep p2 hb) (keep p1 hb) hB.1 (by have := hB.2.1; omega) (by have := hB.2.2.1; omega)
  have HCt := bContains_any W1 90 #[.pointer (some ⟨w.heap.size + 1, 0, none⟩), .pointer (some ⟨w.heap.size, 0, none⟩)] (some ⟨g, 0, none⟩) n cap z.free (ovl1 (a + P) a) (blks_own Z1.own (by omega)) putF1_call hHold
  clear hP hW1 hHold
  go_enter Try.func75, Try.ntmps75
  go_wp2_with fail
  go_region_held3 (fun wx => wx.cell? ⟨w.heap.size, 0, none⟩ = some (.int .i64 a)) (first | assumption | go_keep) (fail)
  rw [HW1.out]
  go_wp2_with fail
  go_at_call 89
  refine HCt.mono ?_
  rintro e W2 ⟨rfl, hb2⟩
  have hbb := hb1.trans (hb2.mono hb1.size)
  have hany : z.free.any (ovl1 (a + P) a) = true := by have := (ovl_any z.free a o).2 hv; rw [HP.out] at this; exact this
  rw [hany]
  clear hany HCt Z Z1 HW1 hM hv hA
  go_wp2
  go_ret
  exact ⟨rfl, hbb⟩

/-- What the last statement of put reads. -/
structure PutF (ab zb k K g n cap : Nat) (f t A x : Int) (tv : Value) (W : World) : Prop where
  a : W.cell? ⟨ab, 0, none⟩ = some (.int .i64 A)
  c0 : W.cell? ⟨zb, 0, none⟩ = some (.int .i64 f)
  c1 : W.cell? ⟨zb, 1, none⟩ = some (.int .i64 t)
  c2 : W.cell? ⟨zb, 2, none⟩ = some (.slice (some ⟨g, 0, none⟩) n cap)
  c3 : W.cell? ⟨zb, 3, none⟩ = some tv
  e : W.cell? ⟨k, K, none⟩ = some (.int .i64 x)
theorem PutF.below {ab zb k K g n cap : Nat} {f t A x : Int} {tv : Value} {W W' : World} (h : PutF ab zb k K g n cap f t A x tv W) (hb : Below W.heap.size W W') : PutF ab zb k K g n cap f t A x tv W' := ⟨keep h.a hb, keep h.c0 hb, keep h.c1 hb, keep h.c2 hb, keep h.c3 hb, keep h.e hb⟩
theorem PutF.but {ab zb k K g n cap c : Nat} {f t A x : Int} {tv : Value} {W W' : World} (h : PutF ab zb k K g n cap f t A x tv W) (hb : But c W W') (h1 : ab ≠ c) (h2 : zb ≠ c) (h3 : k ≠ c) : PutF ab zb k K g n cap f t A x tv W' := ⟨hb.cell h.a h1, hb.cell h.c0 h2, hb.cell h.c1 h2, hb.cell h.c2 h2, hb.cell h.c3 h2, hb.cell h.e h3⟩

/-- What a put leaves: the zone with another list, its row the old one or a new one. -/
def PutOk (w w' : World) (base zb g k tn tk : Nat) (z : Zn) : Prop :=
  ∃ g' n' cap', Zo w' base zb g' n' cap' k tn tk z ∧ (g' = g ∨ w.heap.size ≤ g') ∧ Bu2 g zb w w'

set_option maxHeartbeats 8000000 in
theorem put_ok (w : World) (base zb g n cap k tn tk : Nat) (z : Zn) (a o : Int) (Z : Zo w base zb g n cap k tn tk z) (hM : ZMay z) (hA : blkIn z.f z.t a o) (hv : ¬ ovlP z.free a o) :
    Calls Try.prog 75 #[.pointer (some ⟨zb, 0, none⟩), .int .i64 a, .int .i64 o] w fun e w' => e = .returned (.int .i64 0) ∧ PutOk w w' base zb g k tn tk (backZ z a o) := by
  obtain ⟨⟨o0, o4⟩, a1, a2, a3⟩ := id hA
  obtain ⟨n1, n2, n3, n4, n5⟩ := hM.new
  have hzl := Z.box.lt
  have hgl := Z.glt
  have hkl := Z.klt
  have hp1 := pw_pos o
  have hp2 := pw_le (o := o) ⟨o0, o4⟩
  have hw1 := wrap_pw o ⟨o0, o4⟩
  obtain ⟨P, hP⟩ : ∃ P, pw o = P := ⟨_, rfl⟩
  have HP : Hid (pw o = P) := hP
  rw [hP] at hw1 hp1 hp2
  have hw2 : IntKind.i64.wrap (a + P) = a + P := IntWalk.i64_in _ (by omega)
  have s0 : (w.alloc (.cells #[.int .i64 a] 3)).cell? ⟨w.heap.size, 0, none⟩ = some (.int .i64 a) := by simp
  have hb1 : Below w.heap.size w (((w.alloc (.cells #[.int .i64 a] 3)).alloc (.cells #[.int .i64 (a + P)] 3)).drew) := (((Below.refl _ _).alloc (Nat.le_refl _) _).alloc (by simp) _).drew
  have p1 : (((w.alloc (.cells #[.int .i64 a] 3)).alloc (.cells #[.int .i64 (a + P)] 3)).drew).cell? ⟨w.heap.size, 0, none⟩ = some (.int .i64 a) := by go_simp
  have p2 : (((w.alloc (.cells #[.int .i64 a] 3)).alloc (.cells #[.int .i64 (a + P)] 3)).drew).cell? ⟨w.heap.size + 1, 0, none⟩ = some (.int .i64 (a + P)) := by go_simp
  have p3 : (((w.alloc (.cells #[.int .i64 a] 3)).alloc (.cells #[.int .i64 (a + P)] 3)).drew).frozen? ⟨w.heap.size, 0, none⟩ = false := by go_simp
  have p4 : (((w.alloc (.cells #[.int .i64 a] 3)).alloc (.cells #[.int .i64 (a + P)] 3)).drew).heap.size = w.heap.size + 2 := by simp
  obtain ⟨W1, hW1⟩ : ∃ W1, ((w.alloc (.cells #[.int .i64 a] 3)).alloc (.cells #[.int .i64 (a + P)] 3)).drew = W1 := ⟨_, rfl⟩
  have HW1 : Hid _ := hW1
  rw [hW1] at hb1 p1 p2 p3 p4
  have Z1 := Z.below hb1
  have y2 := Z1.box.c2
  have hlen := bowns_len Z1.own
  have hl256 := may_len hM
  have hHold : HoldsB 90 #[.pointer (some ⟨w.heap.size + 1, 0, none⟩), .pointer (some ⟨w.heap.size, 0, none⟩)] z.free (ovl1 (a + P) a) W1 := fun i hi W hb => by
    have hB := (freeOk_at hM.free hi rfl).1
    exact putF1_any W _ _ (a + P) a _ _ _ (keep p2 hb) (keep p1 hb) hB.1 (by have := hB.2.1; omega) (by have := hB.2.2.1; omega)
  have HCt := bContains_any W1 90 #[.pointer (some ⟨w.heap.size + 1, 0, none⟩), .pointer (some ⟨w.heap.size, 0, none⟩)] (some ⟨g, 0, none⟩) n cap z.free (ovl1 (a + P) a) (blks_own Z1.own (by omega)) putF1_call hHold
  clear hP hW1 hHold
  go_enter Try.func75, Try.ntmps75
  go_wp2_with fail
  go_region_held3 (fun wx => wx.cell? ⟨w.heap.size, 0, none⟩ = some (.int .i64 a)) (first | assumption | go_keep) (fail)
  rw [HW1.out]
  go_wp2_with fail
  go_at_call 89
  refine HCt.mono ?_
  rintro e W2 ⟨rfl, hb2⟩
  have hany : z.free.any (ovl1 (a + P) a) = false := by
    cases hh : z.free.any (ovl1 (a + P) a) with
    | false => rfl
    | true => rw [← HP.out] at hh; exact absurd ((ovl_any z.free a o).1 hh) hv
  rw [hany]
  have Z2 := Z1.below hb2
  have hB2 := hb1.trans (hb2.mono hb1.size)
  have r1 := keep p1 hb2
  have r3 : W2.frozen? ⟨w.heap.size, 0, none⟩ = false := (hb2.frozen (p := ⟨w.heap.size, 0, none⟩) (World.block_lt_of_cell? W1 _ p1)).trans p3
  obtain ⟨R, hR⟩ : ∃ R, backGo (4 - o).toNat z.free a o = R := ⟨_, rfl⟩
  have HJ := join_any W2 base zb g n cap z.f z.t (.slice (some ⟨k, 0, none⟩) tn tk) z.free a o hM.new Z2.box Z2.own Z2.gz (by omega) (inc_of_free hM.free) (may_blk hM) hA R hR
  have HR : Hid (backZ z a o = ⟨z.f, z.t, addB R.1 ⟨R.2.1, R.2.2, z.types.getD ((R.2.1 - z.f) / 8).toNat 0⟩, z.types⟩) := by show _ = _; unfold backZ; rw [hR]
  have hs2 := hb2.size
  clear hany HCt Z Z1 HW1 hv hA hR p1 p2 p3 y2 hb1 s0
  go_wp2_with fail
  go_at_call 92
  refine HJ.mono ?_
  rintro e W3 ⟨⟨n', rfl, hn', B3, own3, hbu3⟩, hA3⟩
  obtain ⟨L, A, O⟩ := R
  dsimp only at own3 hA3 HR ⊢
  have gab1 : w.heap.size ≠ zb := by omega
  have gab2 : w.heap.size ≠ g := by omega
  have gab3 : w.heap.size ≠ k := by omega
  have t1 := hbu3.cell r1 gab2 gab1
  have t3 : W3.frozen? ⟨w.heap.size, 0, none⟩ = false := (World.frozen?_of_block (a := ⟨w.heap.size, 0, none⟩) (hbu3.block w.heap.size (World.block_lt_of_cell? W2 _ r1) gab2 gab1)).trans r3
  have typ3 := hbu3.owns Z2.typ (Ne.symm Z2.gk) Z2.kz
  have hbt4 : But w.heap.size W3 (W3.setCell ⟨w.heap.size, 0, none⟩ (.int .i64 A)) := (But.refl _ _).setCell _
  have B4 := B3.but hbt4 (Ne.symm gab1)
  have own4 := own_but own3 hbt4 (Ne.symm gab2)
  have typ4 := own_but typ3 hbt4 (Ne.symm gab3)
  have at4 : (W3.setCell ⟨w.heap.size, 0, none⟩ (.int .i64 A)).cell? ⟨w.heap.size, 0, none⟩ = some (.int .i64 A) := World.cell?_setCell_same _ _ _ t1
  have hU4 : Bu2 g zb w (W3.setCell ⟨w.heap.size, 0, none⟩ (.int .i64 A)) := by
    have h3 : Bu2 g zb w W3 := (Bu2.of_below hB2).trans hbu3
    exact ⟨hbt4.os.trans h3.os, hbt4.tape.trans h3.tape, hbt4.output.trans h3.output, Nat.le_trans h3.size hbt4.size, fun j hj h1 h2 => (hbt4.block j (Nat.lt_of_lt_of_le hj h3.size) (by omega)).trans (h3.block j hj h1 h2)⟩
  obtain ⟨W4, hW4⟩ : ∃ W4, W3.setCell ⟨w.heap.size, 0, none⟩ (.int .i64 A) = W4 := ⟨_, rfl⟩
  rw [hW4] at B4 own4 typ4 at4 hU4
  have HW4 : Hid _ := hW4
  have y2 := B4.c2
  have hlL := bowns_len own4
  have hHold : HoldsB 93 #[.pointer (some ⟨w.heap.size, 0, none⟩)] L (fun b => decide (A < b.a)) W4 := fun i hi W hb => putF2_any W _ A _ _ _ (keep at4 hb)
  have HIx := bIndex_any W4 93 #[.pointer (some ⟨w.heap.size, 0, none⟩)] (some ⟨g, 0, none⟩) n' cap L (fun b => decide (A < b.a)) (blks_own own4 (by omega)) putF2_call hHold
  obtain ⟨⟨oo0, oo4⟩, a4, a5, a6⟩ := hA3
  have hlenT := hM.len
  have htl := owns_len typ4
  obtain ⟨K, hK⟩ : ∃ K : Nat, (A - z.f) / 8 = (K : Int) := ⟨((A - z.f) / 8).toNat, by omega⟩
  obtain ⟨x, hx⟩ : ∃ x, z.types.getD K 0 = x := ⟨_, rfl⟩
  clear hHold hW4 HJ B3 own3 typ3 hbt4 hbu3 r1 r3
  go_wp2_with (rw [HW4.out])
  go_at_call 46
  refine HIx.mono ?_
  rintro e W5 ⟨hf, hb5⟩
  have B5 := B4.below hb5
  have own5 := owns_below own4 hb5 (Nat.le_refl _)
  have typ5 := owns_below typ4 hb5 (Nat.le_refl _)
  have at5 := keep at4 hb5
  have hU5 := hU4.trans (.of_below hb5)
  have hs5 : w.heap.size ≤ W5.heap.size := hU5.size
  clear HIx B4 own4 typ4 at4 hU4 hb5 y2 t1 t3 HW4
  rcases hf with ⟨I, hI, rfl, hi1, hi2⟩ | ⟨rfl, hi1⟩
  · have hI1 : ∀ j, j < I → ¬ (⟨A, O, x⟩ : Bk).a < (L.getD j .zero).a := fun j hj => of_decide_eq_false (hi2 j hj)
    have hI2 : I < L.length → (⟨A, O, x⟩ : Bk).a < (L.getD I .zero).a := fun _ => of_decide_eq_true hi1
    clear hi1 hi2
    have hKn : K < tn := by omega
    have hKi : (K : Int) < (tn : Int) := by omega
    have c0 := B5.c0
    have c1 := B5.c1
    have c2 := B5.c2
    have c3 := B5.c3
    have z2 := B5.z2
    have hcx : W5.cell? ⟨k, K, none⟩ = some (.int .i64 x) := by
      have h := typ5.cellAt K (by omega)
      rw [vals_get, List.getElem?_eq_getElem (by omega)] at h
      rw [h, ← hx, List.getD_eq_getElem?_getD, List.getElem?_eq_getElem (by omega)]
      rfl
    have S0 : PutF w.heap.size zb k K g n' cap z.f z.t A x (.slice (some ⟨k, 0, none⟩) tn tk) W5 := ⟨at5, c0, c1, c2, c3, hcx⟩
    have S1 : PutF w.heap.size zb k K g n' cap z.f z.t A x (.slice (some ⟨k, 0, none⟩) tn tk) { W5 with drawn := W5.drawn + 1 } := S0.below (Below.refl _ _).drew
    have m1 : ∀ wx, PutF w.heap.size zb k K g n' cap z.f z.t A x (.slice (some ⟨k, 0, none⟩) tn tk) wx → wx.cell? ⟨w.heap.size, 0, none⟩ = some (.int .i64 A) := fun wx h => h.a
    have m2 : ∀ wx, PutF w.heap.size zb k K g n' cap z.f z.t A x (.slice (some ⟨k, 0, none⟩) tn tk) wx → wx.cell? ⟨zb, 0, none⟩ = some (.int .i64 z.f) := fun wx h => h.c0
    have m3 : ∀ wx, PutF w.heap.size zb k K g n' cap z.f z.t A x (.slice (some ⟨k, 0, none⟩) tn tk) wx → wx.cell? ⟨zb, 1, none⟩ = some (.int .i64 z.t) := fun wx h => h.c1
    have m4 : ∀ wx, PutF w.heap.size zb k K g n' cap z.f z.t A x (.slice (some ⟨k, 0, none⟩) tn tk) wx → wx.cell? ⟨zb, 2, none⟩ = some (.slice (some ⟨g, 0, none⟩) n' cap) := fun wx h => h.c2
    have m5 : ∀ wx, PutF w.heap.size zb k K g n' cap z.f z.t A x (.slice (some ⟨k, 0, none⟩) tn tk) wx → wx.cell? ⟨zb, 3, none⟩ = some (.slice (some ⟨k, 0, none⟩) tn tk) := fun wx h => h.c3
    have m6 : ∀ wx, PutF w.heap.size zb k K g n' cap z.f z.t A x (.slice (some ⟨k, 0, none⟩) tn tk) wx → wx.cell? ⟨k, K, none⟩ = some (.int .i64 x) := fun wx h => h.e
    have HG : Hid (∀ V, Below W5.heap.size W5 V → Calls Try.prog 95 #[.agg #[.int .i64 z.f, .int .i64 z.t, .slice (some ⟨g, 0, none⟩) n' cap, .slice (some ⟨k, 0, none⟩) tn tk], .int .i64 A] V fun e w' => e = .returned (.int .i64 K) ∧ Below W5.heap.size W5 w') := fun V hV => by
      rw [← hK]
      refine (group_any V z.f z.t _ _ n' cap tn tk A n1 a4 (by omega)).mono ?_
      rintro e w' ⟨rfl, hb⟩
      exact ⟨rfl, hV.trans (hb.mono hV.size)⟩
    have HI : Hid (∀ w6, Below W5.heap.size W5 w6 → Calls Try.prog 94 #[.slice (some ⟨g, 0, none⟩) n' cap, .int .i64 (I : Int), .slice (some ⟨w6.heap.size, 0, none⟩) 1 1] (w6.alloc (.cells #[.int .i64 A, .int .i64 O, .int .i64 x] 63)) fun e w7 => RetRow (w6.alloc (.cells #[.int .i64 A, .int .i64 O, .int .i64 x] 63)) w7 base g (n' + 1) (insB L I ⟨A, O, x⟩) e) := fun w6 hb6 => by
      refine bIns_any _ base g n' cap I w6.heap.size L ⟨A, O, x⟩ (by omega) (by omega) (owns_below (owns_below own5 hb6 (Nat.le_refl _)) (below_box _ _) (Nat.le_refl _)) (heap_alloc_new _ _) (by have := hb6.size; omega)
    have HADD : Hid (backZ z a o = ⟨z.f, z.t, insB L I ⟨A, O, x⟩, z.types⟩) := by
      show _ = _
      rw [HR.out, hK, show ((K : Int)).toNat = K from rfl, hx, addB_at (by omega) hI1 hI2]
    clear hI1 hI2 HR hK hx
    have hBd := (Below.refl W5.heap.size W5).drew
    go_wp2_with fail
    refine wp_region_peel (S := fun wx => PutF w.heap.size zb k K g n' cap z.f z.t A x (.slice (some ⟨k, 0, none⟩) tn tk) wx) 24 _ (by kernel_rfl) (by kernel_rfl) rfl ?_
    simp only [List.take_succ_cons, List.take_zero]
    refine takeH 0 (v := .pointer (some ⟨zb, 0, none⟩)) rfl (by kernel_rfl) (by kernel_rfl) (by kernel_rfl) (fun _ _ _ h => h) rfl (fun wx hSx => ?_) S1 ?_
    · go_simp
    try simp only [Act.put, List.setIfInBounds_toArray, List.set_cons_zero, List.set_cons_succ]
    refine takeH 1 (v := .pointer (some ⟨zb, 0, none⟩)) rfl (by kernel_rfl) (by kernel_rfl) (by kernel_rfl) (fun _ _ _ h => h) rfl (fun wx hSx => ?_) S1 ?_
    · go_simp
    try simp only [Act.put, List.setIfInBounds_toArray, List.set_cons_zero, List.set_cons_succ]
    refine takeH 2 (v := .pointer (some ⟨zb, 0, none⟩)) rfl (by kernel_rfl) (by kernel_rfl) (by kernel_rfl) (fun _ _ _ h => h) rfl (fun wx hSx => ?_) S1 ?_
    · go_simp
    try simp only [Act.put, List.setIfInBounds_toArray, List.set_cons_zero, List.set_cons_succ]
    refine takeH 3 (v := .pointer (some ⟨zb, 2, none⟩)) rfl (by kernel_rfl) (by kernel_rfl) (by kernel_rfl) (fun _ _ _ h => h) rfl (fun wx hSx => ?_) S1 ?_
    · go_simp
    try simp only [Act.put, List.setIfInBounds_toArray, List.set_cons_zero, List.set_cons_succ]
    refine takeH 4 (v := .slice (some ⟨g, 0, none⟩) n' cap) rfl (by kernel_rfl) (by kernel_rfl) (by kernel_rfl) (fun _ _ _ h => h) rfl (fun wx hSx => ?_) S1 ?_
    · go_simp
    try simp only [Act.put, List.setIfInBounds_toArray, List.set_cons_zero, List.set_cons_succ]
    refine takeH 5 (v := .int .i64 (I : Int)) rfl (by kernel_rfl) (by kernel_rfl) (by kernel_rfl) (fun _ _ _ h => h) rfl (fun wx hSx => ?_) S1 ?_
    · go_simp
    try simp only [Act.put, List.setIfInBounds_toArray, List.set_cons_zero, List.set_cons_succ]
    refine takeH 6 (v := .int .i64 A) rfl (by kernel_rfl) (by kernel_rfl) (by kernel_rfl) (fun _ _ _ h => h) rfl (fun wx hSx => ?_) S1 ?_
    · go_simp
    try simp only [Act.put, List.setIfInBounds_toArray, List.set_cons_zero, List.set_cons_succ]
    refine takeH 7 (v := .int .i64 O) rfl (by kernel_rfl) (by kernel_rfl) (by kernel_rfl) (fun _ _ _ h => h) rfl (fun wx hSx => ?_) S1 ?_
    · go_simp
    try simp only [Act.put, List.setIfInBounds_toArray, List.set_cons_zero, List.set_cons_succ]
    refine takeH 8 (v := .pointer (some ⟨zb, 0, none⟩)) rfl (by kernel_rfl) (by kernel_rfl) (by kernel_rfl) (fun _ _ _ h => h) rfl (fun wx hSx => ?_) S1 ?_
    · go_simp
    try simp only [Act.put, List.setIfInBounds_toArray, List.set_cons_zero, List.set_cons_succ]
    refine takeH 9 (v := .pointer (some ⟨zb, 0, none⟩)) rfl (by kernel_rfl) (by kernel_rfl) (by kernel_rfl) (fun _ _ _ h => h) rfl (fun wx hSx => ?_) S1 ?_
    · go_simp
    try simp only [Act.put, List.setIfInBounds_toArray, List.set_cons_zero, List.set_cons_succ]
    refine takeH 10 (v := .pointer (some ⟨zb, 3, none⟩)) rfl (by kernel_rfl) (by kernel_rfl) (by kernel_rfl) (fun _ _ _ h => h) rfl (fun wx hSx => ?_) S1 ?_
    · go_simp
    try simp only [Act.put, List.setIfInBounds_toArray, List.set_cons_zero, List.set_cons_succ]
    refine takeH 11 (v := .slice (some ⟨k, 0, none⟩) tn tk) rfl (by kernel_rfl) (by kernel_rfl) (by kernel_rfl) (fun _ _ _ h => h) rfl (fun wx hSx => ?_) S1 ?_
    · go_simp
    try simp only [Act.put, List.setIfInBounds_toArray, List.set_cons_zero, List.set_cons_succ]
    refine takeH 12 (v := .pointer (some ⟨zb, 0, none⟩)) rfl (by kernel_rfl) (by kernel_rfl) (by kernel_rfl) (fun _ _ _ h => h) rfl (fun wx hSx => ?_) S1 ?_
    · go_simp
    try simp only [Act.put, List.setIfInBounds_toArray, List.set_cons_zero, List.set_cons_succ]
    refine takeH 13 (v := .pointer (some ⟨zb, 0, none⟩)) rfl (by kernel_rfl) (by kernel_rfl) (by kernel_rfl) (fun _ _ _ h => h) rfl (fun wx hSx => ?_) S1 ?_
    · go_simp
    try simp only [Act.put, List.setIfInBounds_toArray, List.set_cons_zero, List.set_cons_succ]
    refine takeH 14 (v := .agg #[.int .i64 z.f, .int .i64 z.t, .slice (some ⟨g, 0, none⟩) n' cap, .slice (some ⟨k, 0, none⟩) tn tk]) rfl (by kernel_rfl) (by kernel_rfl) (by kernel_rfl) (fun _ _ _ h => h) rfl (fun wx hSx => ?_) S1 ?_
    · go_simp
    try simp only [Act.put, List.setIfInBounds_toArray, List.set_cons_zero, List.set_cons_succ]
    refine takeH 15 (v := .int .i64 A) rfl (by kernel_rfl) (by kernel_rfl) (by kernel_rfl) (fun _ _ _ h => h) rfl (fun wx hSx => ?_) S1 ?_
    · go_simp
    try simp only [Act.put, List.setIfInBounds_toArray, List.set_cons_zero, List.set_cons_succ]
    refine oneH 16 (by kernel_rfl) rfl rfl (fun K1 hK1 => ?_)
    go_simp
    refine (HG.out _ hBd).mono ?_
    rintro e w6 ⟨rfl, hb6⟩
    have hS6 := S0.below hb6
    refine hK1 _ _ hS6 ?_
    try simp only [Act.put, List.setIfInBounds_toArray, List.set_cons_zero, List.set_cons_succ]
    refine takeH 17 (v := .pointer (some ⟨k, K, none⟩)) rfl (by kernel_rfl) (by kernel_rfl) (by kernel_rfl) (fun _ _ _ h => h) rfl (fun wx hSx => ?_) hS6 ?_
    · go_simp
    try simp only [Act.put, List.setIfInBounds_toArray, List.set_cons_zero, List.set_cons_succ]
    refine takeH 18 (v := .int .i64 x) rfl (by kernel_rfl) (by kernel_rfl) (by kernel_rfl) (fun _ _ _ h => h) rfl (fun wx hSx => ?_) hS6 ?_
    · go_simp
    try simp only [Act.put, List.setIfInBounds_toArray, List.set_cons_zero, List.set_cons_succ]
    refine takeH 19 (v := .agg #[.int .i64 A, .int .i64 O, .int .i64 x]) rfl (by kernel_rfl) (by kernel_rfl) (by kernel_rfl) (fun _ _ _ h => h) rfl (fun wx hSx => ?_) hS6 ?_
    · go_simp
    try simp only [Act.put, List.setIfInBounds_toArray, List.set_cons_zero, List.set_cons_succ]
    refine oneH 20 (by kernel_rfl) rfl rfl (fun K2 hK2 => ?_)
    go_simp
    have hS6' := hS6.below (below_box w6 (.cells #[.int .i64 A, .int .i64 O, .int .i64 x] 63))
    refine hK2 _ _ hS6' ?_
    try simp only [Act.put, List.setIfInBounds_toArray, List.set_cons_zero, List.set_cons_succ]
    refine oneH 21 (by kernel_rfl) rfl rfl (fun K3 hK3 => ?_)
    go_simp
    refine (HI.out _ hb6).mono ?_
    rintro e w7 ⟨g', cap', rfl, ow7, hb7, hg7⟩
    have B7 := ((B5.below hb6).below (below_box w6 (.cells #[.int .i64 A, .int .i64 O, .int .i64 x] 63))).but hb7 (Ne.symm Z2.gz)
    have f2 := B7.c2
    have f2z := B7.z2
    have hS7 := hS6'.but hb7 gab2 (Ne.symm Z2.gz) (Ne.symm Z2.gk)
    refine hK3 _ _ hS7 ?_
    try simp only [Act.put, List.setIfInBounds_toArray, List.set_cons_zero, List.set_cons_succ]
    refine takeH 22 (v := .pointer (some ⟨zb, 0, none⟩)) rfl (by kernel_rfl) (by kernel_rfl) (by kernel_rfl) (fun _ _ _ h => h) rfl (fun wx hSx => ?_) hS7 ?_
    · go_simp
    try simp only [Act.put, List.setIfInBounds_toArray, List.set_cons_zero, List.set_cons_succ]
    refine takeH 23 (v := .pointer (some ⟨zb, 2, none⟩)) rfl (by kernel_rfl) (by kernel_rfl) (by kernel_rfl) (fun _ _ _ h => h) rfl (fun wx hSx => ?_) hS7 ?_
    · go_simp
    try simp only [Act.put, List.setIfInBounds_toArray, List.set_cons_zero, List.set_cons_succ]
    refine wpAnyH_done (by kernel_rfl) ?_ _
    show Oper.wp _ _ _ _ _ _
    all_goals
      have typ7 := own_but (owns_below (owns_below typ5 hb6 (Nat.le_refl _)) (below_box w6 (.cells #[.int .i64 A, .int .i64 O, .int .i64 x] 63)) (Nat.le_refl _)) hb7 (Ne.symm Z2.gk)
      have hs6 := hb6.size
      have hs7 : w6.heap.size + 1 ≤ w7.heap.size := by have := hb7.size; simpa using this
      have hg7' : g' = g ∨ w6.heap.size + 1 ≤ g' := by simpa using hg7
      have hbt : But zb w7 (w7.setCell ⟨zb, 2, none⟩ (.slice (some ⟨g', 0, none⟩) (n' + 1) cap')) := (But.refl _ _).setCell _
      have hgz' : g' ≠ zb := by rcases hg7' with h | h; rw [h]; exact Z2.gz; omega
      have hgk' : g' ≠ k := by rcases hg7' with h | h; rw [h]; exact Z2.gk; omega
      have ZF : Zo (w7.setCell ⟨zb, 2, none⟩ (.slice (some ⟨g', 0, none⟩) (n' + 1) cap')) base zb g' (n' + 1) cap' k tn tk ⟨z.f, z.t, insB L I ⟨A, O, x⟩, z.types⟩ := ⟨B7.set2 _, own_but ow7 hbt hgz', own_but typ7 hbt Z2.kz, hgz', Z2.kz, hgk'⟩
      have hU : Bu2 g zb w (w7.setCell ⟨zb, 2, none⟩ (.slice (some ⟨g', 0, none⟩) (n' + 1) cap')) := (((hU5.trans (.of_below hb6)).trans (.of_below (below_box w6 (.cells #[.int .i64 A, .int .i64 O, .int .i64 x] 63)))).trans (.of_but_g hb7)).trans (.of_but_z hbt)
      have hgF : g' = g ∨ w.heap.size ≤ g' := by rcases hg7' with h | h; exact .inl h; exact .inr (by omega)
      clear hS6 hS6' hS7 HG HI m1 m2 m3 m4 m5 m6 S0 S1 B5 own5 typ5 c0 c1 c2 c3
      go_wp2
      go_ret
      rw [HADD.out]
      exact ⟨rfl, g', n' + 1, cap', ZF, hgF, hU⟩
  · have hI1 : ∀ j, j < n' → ¬ (⟨A, O, x⟩ : Bk).a < (L.getD j .zero).a := fun j hj => of_decide_eq_false (hi1 j (by omega))
    have hI2 : n' < L.length → (⟨A, O, x⟩ : Bk).a < (L.getD n' .zero).a := fun h => by omega
    clear hi1
    have hKn : K < tn := by omega
    have hKi : (K : Int) < (tn : Int) := by omega
    have c0 := B5.c0
    have c1 := B5.c1
    have c2 := B5.c2
    have c3 := B5.c3
    have z2 := B5.z2
    have hcx : W5.cell? ⟨k, K, none⟩ = some (.int .i64 x) := by
      have h := typ5.cellAt K (by omega)
      rw [vals_get, List.getElem?_eq_getElem (by omega)] at h
      rw [h, ← hx, List.getD_eq_getElem?_getD, List.getElem?_eq_getElem (by omega)]
      rfl
    have S0 : PutF w.heap.size zb k K g n' cap z.f z.t A x (.slice (some ⟨k, 0, none⟩) tn tk) W5 := ⟨at5, c0, c1, c2, c3, hcx⟩
    have S1 : PutF w.heap.size zb k K g n' cap z.f z.t A x (.slice (some ⟨k, 0, none⟩) tn tk) { W5 with drawn := W5.drawn + 1 } := S0.below (Below.refl _ _).drew
    have m1 : ∀ wx, PutF w.heap.size zb k K g n' cap z.f z.t A x (.slice (some ⟨k, 0, none⟩) tn tk) wx → wx.cell? ⟨w.heap.size, 0, none⟩ = some (.int .i64 A) := fun wx h => h.a
    have m2 : ∀ wx, PutF w.heap.size zb k K g n' cap z.f z.t A x (.slice (some ⟨k, 0, none⟩) tn tk) wx → wx.cell? ⟨zb, 0, none⟩ = some (.int .i64 z.f) := fun wx h => h.c0
    have m3 : ∀ wx, PutF w.heap.size zb k K g n' cap z.f z.t A x (.slice (some ⟨k, 0, none⟩) tn tk) wx → wx.cell? ⟨zb, 1, none⟩ = some (.int .i64 z.t) := fun wx h => h.c1
    have m4 : ∀ wx, PutF w.heap.size zb k K g n' cap z.f z.t A x (.slice (some ⟨k, 0, none⟩) tn tk) wx → wx.cell? ⟨zb, 2, none⟩ = some (.slice (some ⟨g, 0, none⟩) n' cap) := fun wx h => h.c2
    have m5 : ∀ wx, PutF w.heap.size zb k K g n' cap z.f z.t A x (.slice (some ⟨k, 0, none⟩) tn tk) wx → wx.cell? ⟨zb, 3, none⟩ = some (.slice (some ⟨k, 0, none⟩) tn tk) := fun wx h => h.c3
    have m6 : ∀ wx, PutF w.heap.size zb k K g n' cap z.f z.t A x (.slice (some ⟨k, 0, none⟩) tn tk) wx → wx.cell? ⟨k, K, none⟩ = some (.int .i64 x) := fun wx h => h.e
    have HG : Hid (∀ V, Below W5.heap.size W5 V → Calls Try.prog 95 #[.agg #[.int .i64 z.f, .int .i64 z.t, .slice (some ⟨g, 0, none⟩) n' cap, .slice (some ⟨k, 0, none⟩) tn tk], .int .i64 A] V fun e w' => e = .returned (.int .i64 K) ∧ Below W5.heap.size W5 w') := fun V hV => by
      rw [← hK]
      refine (group_any V z.f z.t _ _ n' cap tn tk A n1 a4 (by omega)).mono ?_
      rintro e w' ⟨rfl, hb⟩
      exact ⟨rfl, hV.trans (hb.mono hV.size)⟩
    have HI : Hid (∀ w6, Below W5.heap.size W5 w6 → Calls Try.prog 94 #[.slice (some ⟨g, 0, none⟩) n' cap, .int .i64 (n' : Int), .slice (some ⟨w6.heap.size, 0, none⟩) 1 1] (w6.alloc (.cells #[.int .i64 A, .int .i64 O, .int .i64 x] 63)) fun e w7 => RetRow (w6.alloc (.cells #[.int .i64 A, .int .i64 O, .int .i64 x] 63)) w7 base g (n' + 1) (insB L n' ⟨A, O, x⟩) e) := fun w6 hb6 => by
      refine bIns_any _ base g n' cap n' w6.heap.size L ⟨A, O, x⟩ (by omega) (by omega) (owns_below (owns_below own5 hb6 (Nat.le_refl _)) (below_box _ _) (Nat.le_refl _)) (heap_alloc_new _ _) (by have := hb6.size; omega)
    have HADD : Hid (backZ z a o = ⟨z.f, z.t, insB L n' ⟨A, O, x⟩, z.types⟩) := by
      show _ = _
      rw [HR.out, hK, show ((K : Int)).toNat = K from rfl, hx, addB_at (by omega) hI1 hI2]
    clear hI1 hI2 HR hK hx
    have hBd := (Below.refl W5.heap.size W5).drew
    go_wp2_with fail
    refine wp_region_peel (S := fun wx => PutF w.heap.size zb k K g n' cap z.f z.t A x (.slice (some ⟨k, 0, none⟩) tn tk) wx) 24 _ (by kernel_rfl) (by kernel_rfl) rfl ?_
    simp only [List.take_succ_cons, List.take_zero]
    refine takeH 0 (v := .pointer (some ⟨zb, 0, none⟩)) rfl (by kernel_rfl) (by kernel_rfl) (by kernel_rfl) (fun _ _ _ h => h) rfl (fun wx hSx => ?_) S1 ?_
    · go_simp
    try simp only [Act.put, List.setIfInBounds_toArray, List.set_cons_zero, List.set_cons_succ]
    refine takeH 1 (v := .pointer (some ⟨zb, 0, none⟩)) rfl (by kernel_rfl) (by kernel_rfl) (by kernel_rfl) (fun _ _ _ h => h) rfl (fun wx hSx => ?_) S1 ?_
    · go_simp
    try simp only [Act.put, List.setIfInBounds_toArray, List.set_cons_zero, List.set_cons_succ]
    refine takeH 2 (v := .pointer (some ⟨zb, 0, none⟩)) rfl (by kernel_rfl) (by kernel_rfl) (by kernel_rfl) (fun _ _ _ h => h) rfl (fun wx hSx => ?_) S1 ?_
    · go_simp
    try simp only [Act.put, List.setIfInBounds_toArray, List.set_cons_zero, List.set_cons_succ]
    refine takeH 3 (v := .pointer (some ⟨zb, 2, none⟩)) rfl (by kernel_rfl) (by kernel_rfl) (by kernel_rfl) (fun _ _ _ h => h) rfl (fun wx hSx => ?_) S1 ?_
    · go_simp
    try simp only [Act.put, List.setIfInBounds_toArray, List.set_cons_zero, List.set_cons_succ]
    refine takeH 4 (v := .slice (some ⟨g, 0, none⟩) n' cap) rfl (by kernel_rfl) (by kernel_rfl) (by kernel_rfl) (fun _ _ _ h => h) rfl (fun wx hSx => ?_) S1 ?_
    · go_simp
    try simp only [Act.put, List.setIfInBounds_toArray, List.set_cons_zero, List.set_cons_succ]
    refine takeH 5 (v := .int .i64 (n' : Int)) rfl (by kernel_rfl) (by kernel_rfl) (by kernel_rfl) (fun _ _ _ h => h) rfl (fun wx hSx => ?_) S1 ?_
    · go_simp
    try simp only [Act.put, List.setIfInBounds_toArray, List.set_cons_zero, List.set_cons_succ]
    refine takeH 6 (v := .int .i64 A) rfl (by kernel_rfl) (by kernel_rfl) (by kernel_rfl) (fun _ _ _ h => h) rfl (fun wx hSx => ?_) S1 ?_
    · go_simp
    try simp only [Act.put, List.setIfInBounds_toArray, List.set_cons_zero, List.set_cons_succ]
    refine takeH 7 (v := .int .i64 O) rfl (by kernel_rfl) (by kernel_rfl) (by kernel_rfl) (fun _ _ _ h => h) rfl (fun wx hSx => ?_) S1 ?_
    · go_simp
    try simp only [Act.put, List.setIfInBounds_toArray, List.set_cons_zero, List.set_cons_succ]
    refine takeH 8 (v := .pointer (some ⟨zb, 0, none⟩)) rfl (by kernel_rfl) (by kernel_rfl) (by kernel_rfl) (fun _ _ _ h => h) rfl (fun wx hSx => ?_) S1 ?_
    · go_simp
    try simp only [Act.put, List.setIfInBounds_toArray, List.set_cons_zero, List.set_cons_succ]
    refine takeH 9 (v := .pointer (some ⟨zb, 0, none⟩)) rfl (by kernel_rfl) (by kernel_rfl) (by kernel_rfl) (fun _ _ _ h => h) rfl (fun wx hSx => ?_) S1 ?_
    · go_simp
    try simp only [Act.put, List.setIfInBounds_toArray, List.set_cons_zero, List.set_cons_succ]
    refine takeH 10 (v := .pointer (some ⟨zb, 3, none⟩)) rfl (by kernel_rfl) (by kernel_rfl) (by kernel_rfl) (fun _ _ _ h => h) rfl (fun wx hSx => ?_) S1 ?_
    · go_simp
    try simp only [Act.put, List.setIfInBounds_toArray, List.set_cons_zero, List.set_cons_succ]
    refine takeH 11 (v := .slice (some ⟨k, 0, none⟩) tn tk) rfl (by kernel_rfl) (by kernel_rfl) (by kernel_rfl) (fun _ _ _ h => h) rfl (fun wx hSx => ?_) S1 ?_
    · go_simp
    try simp only [Act.put, List.setIfInBounds_toArray, List.set_cons_zero, List.set_cons_succ]
    refine takeH 12 (v := .pointer (some ⟨zb, 0, none⟩)) rfl (by kernel_rfl) (by kernel_rfl) (by kernel_rfl) (fun _ _ _ h => h) rfl (fun wx hSx => ?_) S1 ?_
    · go_simp
    try simp only [Act.put, List.setIfInBounds_toArray, List.set_cons_zero, List.set_cons_succ]
    refine takeH 13 (v := .pointer (some ⟨zb, 0, none⟩)) rfl (by kernel_rfl) (by kernel_rfl) (by kernel_rfl) (fun _ _ _ h => h) rfl (fun wx hSx => ?_) S1 ?_
    · go_simp
    try simp only [Act.put, List.setIfInBounds_toArray, List.set_cons_zero, List.set_cons_succ]
    refine takeH 14 (v := .agg #[.int .i64 z.f, .int .i64 z.t, .slice (some ⟨g, 0, none⟩) n' cap, .slice (some ⟨k, 0, none⟩) tn tk]) rfl (by kernel_rfl) (by kernel_rfl) (by kernel_rfl) (fun _ _ _ h => h) rfl (fun wx hSx => ?_) S1 ?_
    · go_simp
    try simp only [Act.put, List.setIfInBounds_toArray, List.set_cons_zero, List.set_cons_succ]
    refine takeH 15 (v := .int .i64 A) rfl (by kernel_rfl) (by kernel_rfl) (by kernel_rfl) (fun _ _ _ h => h) rfl (fun wx hSx => ?_) S1 ?_
    · go_simp
    try simp only [Act.put, List.setIfInBounds_toArray, List.set_cons_zero, List.set_cons_succ]
    refine oneH 16 (by kernel_rfl) rfl rfl (fun K1 hK1 => ?_)
    go_simp
    refine (HG.out _ hBd).mono ?_
    rintro e w6 ⟨rfl, hb6⟩
    have hS6 := S0.below hb6
    refine hK1 _ _ hS6 ?_
    try simp only [Act.put, List.setIfInBounds_toArray, List.set_cons_zero, List.set_cons_succ]
    refine takeH 17 (v := .pointer (some ⟨k, K, none⟩)) rfl (by kernel_rfl) (by kernel_rfl) (by kernel_rfl) (fun _ _ _ h => h) rfl (fun wx hSx => ?_) hS6 ?_
    · go_simp
    try simp only [Act.put, List.setIfInBounds_toArray, List.set_cons_zero, List.set_cons_succ]
    refine takeH 18 (v := .int .i64 x) rfl (by kernel_rfl) (by kernel_rfl) (by kernel_rfl) (fun _ _ _ h => h) rfl (fun wx hSx => ?_) hS6 ?_
    · go_simp
    try simp only [Act.put, List.setIfInBounds_toArray, List.set_cons_zero, List.set_cons_succ]
    refine takeH 19 (v := .agg #[.int .i64 A, .int .i64 O, .int .i64 x]) rfl (by kernel_rfl) (by kernel_rfl) (by kernel_rfl) (fun _ _ _ h => h) rfl (fun wx hSx => ?_) hS6 ?_
    · go_simp
    try simp only [Act.put, List.setIfInBounds_toArray, List.set_cons_zero, List.set_cons_succ]
    refine oneH 20 (by kernel_rfl) rfl rfl (fun K2 hK2 => ?_)
    go_simp
    have hS6' := hS6.below (below_box w6 (.cells #[.int .i64 A, .int .i64 O, .int .i64 x] 63))
    refine hK2 _ _ hS6' ?_
    try simp only [Act.put, List.setIfInBounds_toArray, List.set_cons_zero, List.set_cons_succ]
    refine oneH 21 (by kernel_rfl) rfl rfl (fun K3 hK3 => ?_)
    go_simp
    refine (HI.out _ hb6).mono ?_
    rintro e w7 ⟨g', cap', rfl, ow7, hb7, hg7⟩
    have B7 := ((B5.below hb6).below (below_box w6 (.cells #[.int .i64 A, .int .i64 O, .int .i64 x] 63))).but hb7 (Ne.symm Z2.gz)
    have f2 := B7.c2
    have f2z := B7.z2
    have hS7 := hS6'.but hb7 gab2 (Ne.symm Z2.gz) (Ne.symm Z2.gk)
    refine hK3 _ _ hS7 ?_
    try simp only [Act.put, List.setIfInBounds_toArray, List.set_cons_zero, List.set_cons_succ]
    refine takeH 22 (v := .pointer (some ⟨zb, 0, none⟩)) rfl (by kernel_rfl) (by kernel_rfl) (by kernel_rfl) (fun _ _ _ h => h) rfl (fun wx hSx => ?_) hS7 ?_
    · go_simp
    try simp only [Act.put, List.setIfInBounds_toArray, List.set_cons_zero, List.set_cons_succ]
    refine takeH 23 (v := .pointer (some ⟨zb, 2, none⟩)) rfl (by kernel_rfl) (by kernel_rfl) (by kernel_rfl) (fun _ _ _ h => h) rfl (fun wx hSx => ?_) hS7 ?_
    · go_simp
    try simp only [Act.put, List.setIfInBounds_toArray, List.set_cons_zero, List.set_cons_succ]
    refine wpAnyH_done (by kernel_rfl) ?_ _
    show Oper.wp _ _ _ _ _ _
    all_goals
      have typ7 := own_but (owns_below (owns_below typ5 hb6 (Nat.le_refl _)) (below_box w6 (.cells #[.int .i64 A, .int .i64 O, .int .i64 x] 63)) (Nat.le_refl _)) hb7 (Ne.symm Z2.gk)
      have hs6 := hb6.size
      have hs7 : w6.heap.size + 1 ≤ w7.heap.size := by have := hb7.size; simpa using this
      have hg7' : g' = g ∨ w6.heap.size + 1 ≤ g' := by simpa using hg7
      have hbt : But zb w7 (w7.setCell ⟨zb, 2, none⟩ (.slice (some ⟨g', 0, none⟩) (n' + 1) cap')) := (But.refl _ _).setCell _
      have hgz' : g' ≠ zb := by rcases hg7' with h | h; rw [h]; exact Z2.gz; omega
      have hgk' : g' ≠ k := by rcases hg7' with h | h; rw [h]; exact Z2.gk; omega
      have ZF : Zo (w7.setCell ⟨zb, 2, none⟩ (.slice (some ⟨g', 0, none⟩) (n' + 1) cap')) base zb g' (n' + 1) cap' k tn tk ⟨z.f, z.t, insB L n' ⟨A, O, x⟩, z.types⟩ := ⟨B7.set2 _, own_but ow7 hbt hgz', own_but typ7 hbt Z2.kz, hgz', Z2.kz, hgk'⟩
      have hU : Bu2 g zb w (w7.setCell ⟨zb, 2, none⟩ (.slice (some ⟨g', 0, none⟩) (n' + 1) cap')) := (((hU5.trans (.of_below hb6)).trans (.of_below (below_box w6 (.cells #[.int .i64 A, .int .i64 O, .int .i64 x] 63)))).trans (.of_but_g hb7)).trans (.of_but_z hbt)
      have hgF : g' = g ∨ w.heap.size ≤ g' := by rcases hg7' with h | h; exact .inl h; exact .inr (by omega)
      clear hS6 hS6' hS7 HG HI m1 m2 m3 m4 m5 m6 S0 S1 B5 own5 typ5 c0 c1 c2 c3
      go_wp2
      go_ret
      rw [HADD.out]
      exact ⟨rfl, g', n' + 1, cap', ZF, hgF, hU⟩

end Go.Proofs.Ytbjlbmofdnkmiaa

/-
  OWN TEXT. What a function knows that was handed a zone and answers one.
-/
namespace Go.Proofs.Ytbjlbmofdnkmiaa
open Go Go.RowKit Go.Proofs.Ytbjlbmofdnkmiaa.Kit

/-- What a function knows that was handed a zone and answers one: both boxes, the lists. -/
structure CbI (w : World) (fo : Option Addr) (fn fc : Nat) (to_ : Option Addr) (tn tc : Nat) (z : Zn) (W : World) : Prop where
  b : Below w.heap.size w W
  box : ZBox W w.heap.size (.int .i64 z.f) (.int .i64 z.t) (.slice fo fn fc) (.slice to_ tn tc)
  zn : ZnAt W fo fn to_ tn z
  res : Res4 W (w.heap.size + 1)
  size : w.heap.size + 2 ≤ W.heap.size
theorem CbI.step {w : World} {fo : Option Addr} {fn fc : Nat} {to_ : Option Addr} {tn tc : Nat} {z : Zn} {W W' : World} (h : CbI w fo fn fc to_ tn tc z W) (hb : Below W.heap.size W W') : CbI w fo fn fc to_ tn tc z W' :=
  ⟨h.b.trans (hb.mono h.b.size), h.box.below hb, h.zn.below hb, h.res.below hb, Nat.le_trans h.size hb.size⟩
theorem cbI_first (w : World) (fo : Option Addr) (fn fc : Nat) (to_ : Option Addr) (tn tc : Nat) (z : Zn) (h : ZnAt w fo fn to_ tn z) : CbI w fo fn fc to_ tn tc z ((w.alloc (.cells #[.int .i64 z.f, .int .i64 z.t, .slice fo fn fc, .slice to_ tn tc] 44)).alloc (.cells #[.int .i64 0, .int .i64 0, .slice none 0 0, .slice none 0 0] 44)) := by
  have hb2 : Below w.heap.size w ((w.alloc (.cells #[.int .i64 z.f, .int .i64 z.t, .slice fo fn fc, .slice to_ tn tc] 44)).alloc (.cells #[.int .i64 0, .int .i64 0, .slice none 0 0, .slice none 0 0] 44)) := ((Below.refl _ _).alloc (Nat.le_refl _) _).alloc (by simp) _
  refine ⟨hb2, (zbox_new w _ _ _ _ _).below (below_box _ _), h.below hb2, ?_, by simp⟩
  have := zbox_new (w.alloc (.cells #[.int .i64 z.f, .int .i64 z.t, .slice fo fn fc, .slice to_ tn tc] 44)) (.int .i64 0) (.int .i64 0) (.slice none 0 0) (.slice none 0 0) 44
  have h2 := this.res
  simpa using h2

/-- The copy in a variable of its own. -/
theorem zo_new {w3 : World} {B g k fn tn : Nat} {z : Zn} (o1 : w3.ownsRow B 63 3 (.slice (some ⟨g, 0, none⟩) fn fn) fn (bvals z.free)) (o2 : w3.ownsRow B 3 1 (.slice (some ⟨k, 0, none⟩) tn tn) tn (vals z.types)) (hgk : g ≠ k) :
    Zo (w3.alloc (.cells #[.int .i64 z.f, .int .i64 z.t, .slice (some ⟨g, 0, none⟩) fn fn, .slice (some ⟨k, 0, none⟩) tn tn] 44)) B w3.heap.size g fn fn k tn tn z := by
  have hbx := below_box w3 (.cells #[.int .i64 z.f, .int .i64 z.t, .slice (some ⟨g, 0, none⟩) fn fn, .slice (some ⟨k, 0, none⟩) tn tn] 44)
  have h1 : g < w3.heap.size := (o1.lt _ rfl).2
  have h2 : k < w3.heap.size := (o2.lt _ rfl).2
  exact ⟨zbox_new _ _ _ _ _ _, owns_below o1 hbx (Nat.le_refl _), owns_below o2 hbx (Nat.le_refl _), by omega, by omega, hgk⟩

end Go.Proofs.Ytbjlbmofdnkmiaa
