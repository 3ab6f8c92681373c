/-
  OWN TEXTS, bundled: AppK2, LIns, LIns2, LIns3, LIns4, LIns5.
-/
import Derived.Test.YtbjlbmofdnkmiaaPagesFreesPart2
import Derived.Test.YtbjlbmofdnkmiaaPagesFreesPart4

/-
  OWN TEXT. Rows that grow, and what two copies leave; over whatever program.
-/
namespace Go.Proofs.Ytbjlbmofdnkmiaa.Kit
open Go Go.RowKit

theorem row_new {w : World} {e : TypeId} {size cap : Nat} {A : Array Value} (hs : A.size = cap * size) (hm : cap ≤ maxLen) : Row (w.drew.alloc (.cells A e)) e size w.heap.size cap A.toList := by
  refine ⟨?_, by simpa using hs, hm⟩
  have := heap_alloc_new w.drew (.cells A e)
  simpa using this
theorem below_new (w : World) (o : Obj) : Below w.heap.size w (w.drew.alloc o) := ((Below.refl _ _).drew).alloc (Nat.le_refl _) o

theorem grow_some {P : Program} (w : World) (t ty e : TypeId) (i : TypeInfo) (z : Value) (size : Nat) (ht : P.underlying t = some (.slice e)) (hi : P.info? e = some i) (hz : i.zero = some z) (hsz : i.size = size) (hzs : z.cells.size = size)
    (b : Addr) (sLen sCap : Nat) (olds : List Value) (hlo : olds.length = sLen * size) (holds : ∀ j v, olds[j]? = some v → w.cell? (b.add j) = some v)
    (a : Addr) (n c : Nat) (news : List Value) (hl : news.length = n * size) (hnews : ∀ j v, news[j]? = some v → w.cell? (a.add j) = some v)
    (hg : sCap < sLen + n) (hm : sLen + n ≤ maxLen) (hby : (sLen + n) * i.bytes ≤ 140737488355328) :
    ∃ cap' W cur, (Builtin.append_ #[t, t] ty #[.slice (some b) sLen sCap, .slice (some a) n c]).run P w = .ok (.slice (some ⟨w.heap.size, 0, none⟩) (sLen + n) cap') W ∧
      Row W e size w.heap.size cap' cur ∧ cur.take ((sLen + n) * size) = olds ++ news ∧ sLen + n ≤ cap' ∧ Below w.heap.size w W := by
  subst hsz
  have h63 : ((sLen + n : Nat) : Int) ≤ 9223372036854775807 := by simp only [maxLen] at hm; omega
  have hr := run_append_grow (P := P) w t ty e i z ht hi hz b sLen sCap olds hlo holds a n c news hl hnews hg h63 (growslice_fits hg hby)
  have hc1 := grownCap_ge w (sLen + n) sCap e
  have hc2 := grownCap_le_maxLen w (sLen + n) sCap e hm
  refine ⟨_, _, _, hr, row_new ?_ hc2, ?_, hc1, below_new _ _⟩
  · simp only [Array.size_append, List.size_toArray, size_zeroCells, hlo, hl, hzs]
    rw [← Nat.add_mul, ← Nat.add_mul]
    congr 1
    omega
  · simp only [Array.toList_append]
    rw [List.take_append_of_le_length (by simp [hlo, hl, Nat.add_mul]), List.take_of_length_le (by simp [hlo, hl, Nat.add_mul])]

theorem grow_zeros {P : Program} (w : World) (t tn ty e : TypeId) (i : TypeInfo) (z : Value) (size : Nat) (kq kn : IntKind) (ht : P.underlying t = some (.slice e)) (htn : P.underlying tn = some (.int kn)) (hi : P.info? e = some i) (hz : i.zero = some z) (hsz : i.size = size) (hs0 : 0 < size) (hzs : z.cells.size = size)
    (b : Addr) (sLen sCap : Nat) (olds : List Value) (hlo : olds.length = sLen * size) (holds : ∀ j v, olds[j]? = some v → w.cell? (b.add j) = some v)
    (k : Nat) (h0 : 0 < k) (hg : sCap < sLen + k) (hm : sLen + k ≤ maxLen) (hby : (sLen + k) * i.bytes ≤ 140737488355328) :
    ∃ cap' W cur, (Builtin.append_ #[t, tn] ty #[.slice (some b) sLen sCap, .int kq k]).run P w = .ok (.slice (some ⟨w.heap.size, 0, none⟩) (sLen + k) cap') W ∧
      Row W e size w.heap.size cap' cur ∧ cur.take (sLen * size) = olds ∧ sLen + k ≤ cap' ∧ Below w.heap.size w W := by
  subst hsz
  have h63 : ((sLen + k : Nat) : Int) ≤ 9223372036854775807 := by simp only [maxLen] at hm; omega
  have hold : (Builtin.firstCells i.size sLen (.slice (some b) sLen sCap)).run P w.drew = .ok olds.toArray w.drew :=
    run_firstCells_some w.drew i.size sLen b sLen sCap olds hlo (fun j v hj => by simpa using holds j v hj)
  have h48 : k * i.bytes ≤ 281474976710656 := by have := Nat.mul_le_mul_right i.bytes (show k ≤ sLen + k by omega); omega
  have hr := Go.Lib.run_append_grow_zeros (P := P) w t tn ty e i z kq kn ht htn hi hz (some b) sLen sCap olds hold k h0 hs0 hg h63 h48 (growslice_fits hg hby)
  have hc1 := grownCap_ge w (sLen + k) sCap e
  have hc2 := grownCap_le_maxLen w (sLen + k) sCap e hm
  refine ⟨_, _, _, hr, row_new ?_ hc2, ?_, hc1, below_new _ _⟩
  · simp only [Array.size_append, List.size_toArray, size_zeroCells, hlo, hzs]
    rw [← Nat.add_mul, ← Nat.add_mul]
    congr 1
    omega
  · simp only [Array.toList_append, List.append_assoc]
    rw [List.take_append_of_le_length (by simp [hlo]), List.take_of_length_le (by simp [hlo])]

theorem splice_two_a {α : Type} {L X Y : List α} {p : Nat} (h : p + X.length + Y.length ≤ L.length) : (splice (splice L p X) (p + X.length) Y).take (p + X.length + Y.length) = L.take p ++ (X ++ Y) := by
  have e : (splice L p X).take (p + X.length) = L.take p ++ X := by
    unfold splice
    rw [← List.append_assoc, List.take_append_of_le_length (by simp; omega), List.take_of_length_le (by simp; omega)]
  show (List.take (p + X.length) (splice L p X) ++ (Y ++ _)).take _ = _
  rw [e, ← List.append_assoc, List.take_append_of_le_length (by simp; omega), List.take_of_length_le (by simp; omega), List.append_assoc]

theorem splice_two_b {α : Type} {L X Y : List α} {p : Nat} (h : p + X.length + Y.length ≤ L.length) : (splice (splice L (p + X.length) Y) p X).take (p + X.length + Y.length) = L.take p ++ (X ++ Y) := by
  have e1 : (splice L (p + X.length) Y).take p = L.take p := splice_take (by omega) (by omega)
  have e2 : (splice L (p + X.length) Y).drop (p + X.length) = Y ++ L.drop (p + X.length + Y.length) := by
    unfold splice
    rw [List.drop_append_of_le_length (by simp; omega), List.drop_of_length_le (by simp; omega), List.nil_append]
  show (List.take p (splice L (p + X.length) Y) ++ (X ++ List.drop (p + X.length) (splice L (p + X.length) Y))).take _ = _
  rw [e1, e2, ← List.append_assoc, ← List.append_assoc, List.take_append_of_le_length (by simp; omega), List.take_of_length_le (by simp; omega), List.append_assoc]

end Go.Proofs.Ytbjlbmofdnkmiaa.Kit

/-
  OWN TEXT. Contract of slices.Insert at one list.
-/
namespace Go.Proofs.Ytbjlbmofdnkmiaa
open Go Go.RowKit Go.Proofs.Ytbjlbmofdnkmiaa.Kit

/-- A list with one more at a place. -/
def insQ (l : List Q4) (i : Nat) (b : Q4) : List Q4 := l.take i ++ b :: l.drop i
theorem insQ_vals (l : List Q4) (i : Nat) (b : Q4) : c4 (insQ l i b) = c4 (l.take i) ++ ([b.a, b.b, b.c, b.d] ++ c4 (l.drop i)) := by
  unfold insQ
  rw [c4_append]
  rfl

/-- What is returned: a row of n blocks, the old block or a new one. -/
def RetRowL (w w' : World) (base g n : Nat) (l : List Q4) (e : Ending) : Prop :=
  ∃ g' cap', e = .returned (.slice (some ⟨g', 0, none⟩) n cap') ∧ w'.ownsRow base 57 4 (.slice (some ⟨g', 0, none⟩) n cap') n (c4 l) ∧ But g w w' ∧ (g' = g ∨ w.heap.size ≤ g')

theorem ov_falseL (w : World) (g gv off lb cb la ca : Nat) (cur vs : List Value) (cap kA : Nat) (R : Row w 57 4 g cap cur) (hv : w.heap[gv]? = some (.cells vs.toArray 57 (0, 0))) (hk : vs.length = kA) (hne : gv ≠ g) (hc : 0 < cap) :
    (callFunc 110 #[.slice (some ⟨gv, 0, none⟩) la ca, .slice (some ⟨g, off, none⟩) lb cb]).run Try.prog w = .ok (.value (.bool false)) w := by
  have hz : ∀ w, (Go.sizeOf 57).run Try.prog w = .ok 4 w := fun w => Try.sizeOf57 w
  rw [run_callFunc_extern Try.func110 (by kernel_rfl) (by kernel_rfl) (by kernel_rfl) (e := Extern.SlicesOverlaps.overlaps #[25, 25] #[4]) (by kernel_rfl),
    Lib.run_overlaps_apart w 25 4 57 Try.underlying25 4 hz ⟨gv, 0, none⟩ ⟨g, off, none⟩ la ca lb cb hne 57 57 kA (cap * 4) (by simp [World.shape?, hv, hk]) (by simp [World.shape?, R.h, R.len]) (by omega) (by simp [World.frozen?, hv]) (by simp [World.frozen?, hv])]
  rfl

set_option maxHeartbeats 2000000 in
theorem lIns_end (w : World) (base g N cap i gv : Nat) (l : List Q4) (b : Q4) (hi : i = N) (hN : N ≤ 300) (_hl1 : ∀ x ∈ l, x.One) (hb1 : b.One) (own : w.ownsRow base 57 4 (.slice (some ⟨g, 0, none⟩) N cap) N (c4 l)) (hv : w.heap[gv]? = some (.cells #[b.a, b.b, b.c, b.d] 57 (0, 0))) (_hne : gv ≠ g) :
    Calls Try.prog 104 #[.slice (some ⟨g, 0, none⟩) N cap, .int .i64 i, .slice (some ⟨gv, 0, none⟩) 1 1] w fun e w' => RetRowL w w' base g (N + 1) (insQ l i b) e := by
  obtain ⟨i1, hj, hy0, hy1, hy2⟩ := info_parts info_list
  have hll := c4owns_len own
  obtain ⟨hbg, hnc, cur, R, hcur⟩ := Row.of own
  have hm := R.m
  have hml : N + 1 ≤ maxLen := by unfold maxLen; omega
  unfold maxLen at hm
  have hRl := R.len
  have hvc : ∀ j v, ([b.a, b.b, b.c, b.d] : List Value)[j]? = some v → ∀ W : World, W.heap[gv]? = some (.cells #[b.a, b.b, b.c, b.d] 57 (0, 0)) → W.cell? ((⟨gv, 0, none⟩ : Addr).add j) = some v := by
    intro j v hjv W hW
    rw [add_at, Nat.zero_add]
    simp only [World.cell?, hW]
    simpa using hjv
  have hv1 : ∀ u ∈ ([b.a, b.b, b.c, b.d] : List Value), u.oneCell' = true := q4_one hb1
  obtain ⟨vs, hvs⟩ : ∃ vs : List Value, [b.a, b.b, b.c, b.d] = vs := ⟨_, rfl⟩
  have hvl : vs.length = 4 := by rw [← hvs]; rfl
  have HVA : (#[b.a, b.b, b.c, b.d] : Array Value) = vs.toArray := by rw [← hvs]
  have HI : Hid (c4 (insQ l i b) = c4 (l.take i) ++ (vs ++ c4 (l.drop i))) := by show _ = _; rw [insQ_vals, hvs]
  rw [HVA] at hv hvc
  rw [hvs] at hvc hv1
  have HVC : Hid _ := hvc
  clear hvs HVA hvc
  have a1 : (i : Int) ≤ N := by omega
  have a2 : ((1 : Int) == 0) = false := by decide
  have a3 : (N : Int) ≤ cap := by omega
  have HE : Hid (c4 l ++ vs = c4 (insQ l i b)) := by
    show _ = _
    rw [HI.out, List.take_of_length_le (by omega), List.drop_of_length_le (by omega)]
    simp [c4]
  subst hi
  have hc1 : ∀ j v, vs[j]? = some v → w.cell? ((⟨gv, 0, none⟩ : Addr).add j) = some v := fun j v h => HVC.out j v h w hv
  by_cases hroom : i + 1 ≤ cap
  · go_enter Try.func104, Try.ntmps104
    go_wp2_with (at_builtin; refine wpList_append_fits _ rfl (.tmp 23) (.tmp 24) 25 rfl base 57 i1 4 Try.underlying25 hj hy1 g i cap (c4 l) rfl own ⟨gv, 0, none⟩ 1 1 vs rfl hvl hc1 hv1 hroom ?_; intro w1 ho1 hb1)
    all_goals
      go_ret
      exact ⟨g, cap, rfl, by rw [← HE.out]; exact ho1, ⟨hb1.os, hb1.tape, hb1.output, hb1.size, fun k hk hne => hb1.block k hk (by intro g; exact hne (by simpa using g))⟩, .inl rfl⟩
  · have hold : ∀ j v, (c4 l)[j]? = some v → w.cell? ((⟨g, 0, none⟩ : Addr).add j) = some v := own.cells rfl
    obtain ⟨cap', W, cur', hrun, R', ht, hc', hb'⟩ := grow_some (P := Try.prog) w 25 25 57 i1 _ 4 Try.underlying25 hj hy0 hy1 rfl ⟨g, 0, none⟩ i cap (c4 l) own.1 hold ⟨gv, 0, none⟩ 1 1 vs hvl hc1 (by omega) hml (by rw [hy2]; omega)
    have ow' := R'.owns (base := base) (n := i + 1) (by have := R.lt; omega) hc' ht
    have HR : Hid _ := hrun
    clear hrun
    go_enter Try.func104, Try.ntmps104
    go_wp2_with (at_builtin; refine Lib.wpList_append_run _ rfl (.tmp 23) (.tmp 24) 25 25 rfl _ _ rfl rfl _ _ HR.out ?_)
    all_goals
      go_ret
      exact ⟨w.heap.size, cap', rfl, by rw [← HE.out]; exact ow', .of_below hb', .inr (Nat.le_refl _)⟩

end Go.Proofs.Ytbjlbmofdnkmiaa

/-
  OWN TEXT. Contract of slices.Insert at one list: there is room.
-/
namespace Go.Proofs.Ytbjlbmofdnkmiaa
open Go Go.RowKit Go.Proofs.Ytbjlbmofdnkmiaa.Kit

set_option maxHeartbeats 600000 in
theorem lIns_shift (w : World) (base g N cap i gv : Nat) (l : List Q4) (b : Q4) (hi : i < N) (hN : N ≤ 300) (hl1 : ∀ x ∈ l, x.One) (hb1 : b.One) (hroom : N + 1 ≤ cap) (own : w.ownsRow base 57 4 (.slice (some ⟨g, 0, none⟩) N cap) N (c4 l)) (hv : w.heap[gv]? = some (.cells #[b.a, b.b, b.c, b.d] 57 (0, 0))) (hne : gv ≠ g) :
    Calls Try.prog 104 #[.slice (some ⟨g, 0, none⟩) N cap, .int .i64 i, .slice (some ⟨gv, 0, none⟩) 1 1] w fun e w' => RetRowL w w' base g (N + 1) (insQ l i b) e := by
  obtain ⟨i1, hj, hy0, hy1, hy2⟩ := info_parts info_list
  have hll := c4owns_len own
  obtain ⟨hbg, hnc, cur, R, hcur⟩ := Row.of own
  have hm := R.m
  have hml : N + 1 ≤ maxLen := by unfold maxLen; omega
  unfold maxLen at hm
  have hRl := R.len
  have hvc : ∀ j v, ([b.a, b.b, b.c, b.d] : List Value)[j]? = some v → ∀ W : World, W.heap[gv]? = some (.cells #[b.a, b.b, b.c, b.d] 57 (0, 0)) → W.cell? ((⟨gv, 0, none⟩ : Addr).add j) = some v := by
    intro j v hjv W hW
    rw [add_at, Nat.zero_add]
    simp only [World.cell?, hW]
    simpa using hjv
  have hv1 : ∀ u ∈ ([b.a, b.b, b.c, b.d] : List Value), u.oneCell' = true := q4_one hb1
  obtain ⟨vs, hvs⟩ : ∃ vs : List Value, [b.a, b.b, b.c, b.d] = vs := ⟨_, rfl⟩
  have hvl : vs.length = 4 := by rw [← hvs]; rfl
  have HVA : (#[b.a, b.b, b.c, b.d] : Array Value) = vs.toArray := by rw [← hvs]
  have HI : Hid (c4 (insQ l i b) = c4 (l.take i) ++ (vs ++ c4 (l.drop i))) := by show _ = _; rw [insQ_vals, hvs]
  rw [HVA] at hv hvc
  rw [hvs] at hvc hv1
  have HVC : Hid _ := hvc
  clear hvs HVA hvc
  have a1 : (i : Int) ≤ N := by omega
  have a2 : ((1 : Int) == 0) = false := by decide
  have a3 : (N : Int) ≤ cap := by omega
  obtain ⟨XS, hXS⟩ : ∃ XS, XS = c4 (l.drop i) := ⟨_, rfl⟩
  have hXl : XS.length = (N - i) * 4 := by rw [hXS, length_c4, List.length_drop, hll]
  have hX1 : ∀ u ∈ XS, u.oneCell' = true := by rw [hXS]; exact c4_oneCell _ (fun x hx => hl1 x (List.mem_of_mem_drop hx))
  have hXc : ∀ j u, XS[j]? = some u → cur[i * 4 + j]? = some u := by
    intro j u hu
    rw [hXS, ← c4_drop, List.getElem?_drop] at hu
    rw [← hcur, List.getElem?_take] at hu
    split at hu
    · exact hu
    · cases hu
  have HI2 : Hid (c4 (insQ l i b) = cur.take (i * 4) ++ (vs ++ XS)) := by
    show _ = _
    rw [HI.out, hXS, take_cut hcur (Nat.mul_le_mul_right 4 (show i ≤ N by omega)), c4_take]
  have HXc : Hid _ := hXc
  clear hXS hXc HI hcur
  have b1 : ((i : Int) == (N : Int)) = false := by simp; omega
  have b2 : ¬ (cap = i) := by omega
  have b3 : (i : Int) ≤ (N : Int) + 1 := by omega
  have b4 : (i : Int) + 1 ≤ (N : Int) + 1 := by omega
  have b5 : ((i : Int) + 1).toNat = i + 1 := by omega
  have b6 : ((N : Int) + 1).toNat = N + 1 := by omega
  have b7 : (0 : Int) ≤ (i : Int) + 1 := by omega
  have b8 : (0 : Int) ≤ (N : Int) + 1 := by omega
  have b9 : i ≤ N := by omega
  have b10 : i ≤ cap := by omega
  have b11 : (i : Int) ≤ cap := by omega
  have bw : IntKind.i64.wrap ((i : Int) + 1) = (i : Int) + 1 := by rw [IntKind.wrap_i64]; omega
  have hov : ∀ lb cb, (callFunc 110 #[.slice (some ⟨gv, 0, none⟩) 1 1, .slice (some ⟨g, (i + 1) * 4, none⟩) lb cb]).run Try.prog w = .ok (.value (.bool false)) w := fun lb cb => ov_falseL w g gv _ lb cb 1 1 cur vs cap 4 R hv hvl hne (by omega)
  have b12 : ¬ (cap = i + 1) := by omega
  have b13 : ¬ ((cap : Int) < (N : Int) + 1) := by omega
  have b14 : (N : Int) + 1 ≤ (cap : Int) := by omega
  have RD := R.below (Below.refl w.heap.size w).drew
  have hv2 : w.drew.heap[gv]? = some (.cells vs.toArray 57 (0, 0)) := hv
  clear own
  go_enter Try.func104, Try.ntmps104
  go_wp2_with (simp only [hov])
  go_region_law (refine step_copy_k rfl (.tmp 73) (.tmp 76) 25 25 rfl 57 4 Try.underlying25 size_list (some ⟨g, (i + 1) * 4, none⟩) (some ⟨g, i * 4, none⟩) (N - i) (cap - (i + 1)) (N + 1 - i) (cap - i) (by simp [Act.eval, Act.put]) (by simp [Act.eval, Act.put]) g ((i + 1) * 4) cur 57 RD.h XS (N - i) (by simp only [Nat.min_def]; split <;> omega) hXl (fun _ => ⟨rfl, _, rfl, fun j v hj => by rw [add_at, RD.cell]; exact HXc.out j v hj⟩) (by omega) hX1 ?_; intro w1 hg1 hb1)
  all_goals
    have hv3 : w1.heap[gv]? = some (.cells vs.toArray 57 (0, 0)) := (hb1.block gv (Array.getElem?_eq_some_iff.1 hv2).1 hne).trans hv2
    clear hov RD
    go_wp2_with (refine wpList_copy_k rfl (.tmp 80) (.tmp 81) 25 25 rfl 57 4 Try.underlying25 size_list _ _ _ _ _ _ rfl rfl g (i * 4) (splice cur ((i + 1) * 4) XS) 57 hg1.out vs 1 (by simp only [Nat.min_def]; split <;> omega) hvl (fun _ => ⟨rfl, _, rfl, fun j v hj => HVC.out j v hj w1 hv3⟩) (by rw [length_splice _ _ _ (by omega)]; omega) hv1 ?_; intro w2 hg2 hb2)
    go_ret
    have e3 : (i + 1) * 4 = i * 4 + vs.length := by omega
    have hl2 : (splice (splice cur ((i + 1) * 4) XS) (i * 4) vs).length = cap * 4 := by rw [length_splice _ _ _ (by rw [length_splice _ _ _ (by omega)]; omega), length_splice _ _ _ (by omega)]; exact hRl
    have R2 : Row w2 57 4 g cap (splice (splice cur ((i + 1) * 4) XS) (i * 4) vs) := ⟨hg2.out, hl2, R.m⟩
    refine ⟨g, cap, rfl, R2.owns hbg hroom ?_, ((But.of_below (Below.refl _ _).drew).trans hb1).trans hb2, .inl rfl⟩
    rw [HI2.out, e3, show (N + 1) * 4 = i * 4 + vs.length + XS.length by omega]
    exact splice_two_b (by omega)

end Go.Proofs.Ytbjlbmofdnkmiaa

/-
  OWN TEXT. Contract of slices.Insert at one list: there is no room.
-/
namespace Go.Proofs.Ytbjlbmofdnkmiaa
open Go Go.RowKit Go.Proofs.Ytbjlbmofdnkmiaa.Kit

set_option maxHeartbeats 600000 in
theorem lIns_grow (w : World) (base g N cap i gv : Nat) (l : List Q4) (b : Q4) (hi : i < N) (hN : N ≤ 300) (hl1 : ∀ x ∈ l, x.One) (hb1 : b.One) (hroom : cap = N) (own : w.ownsRow base 57 4 (.slice (some ⟨g, 0, none⟩) N cap) N (c4 l)) (hv : w.heap[gv]? = some (.cells #[b.a, b.b, b.c, b.d] 57 (0, 0))) (_hne : gv ≠ g) :
    Calls Try.prog 104 #[.slice (some ⟨g, 0, none⟩) N cap, .int .i64 i, .slice (some ⟨gv, 0, none⟩) 1 1] w fun e w' => RetRowL w w' base g (N + 1) (insQ l i b) e := by
  subst hroom
  obtain ⟨i1, hj, hy0, hy1, hy2⟩ := info_parts info_list
  have hll := c4owns_len own
  obtain ⟨hbg, hnc, cur, R, hcur⟩ := Row.of own
  have hm := R.m
  have hml : cap + 1 ≤ maxLen := by unfold maxLen; omega
  unfold maxLen at hm
  have hRl := R.len
  have hvc : ∀ j v, ([b.a, b.b, b.c, b.d] : List Value)[j]? = some v → ∀ W : World, W.heap[gv]? = some (.cells #[b.a, b.b, b.c, b.d] 57 (0, 0)) → W.cell? ((⟨gv, 0, none⟩ : Addr).add j) = some v := by
    intro j v hjv W hW
    rw [add_at, Nat.zero_add]
    simp only [World.cell?, hW]
    simpa using hjv
  have hv1 : ∀ u ∈ ([b.a, b.b, b.c, b.d] : List Value), u.oneCell' = true := q4_one hb1
  obtain ⟨vs, hvs⟩ : ∃ vs : List Value, [b.a, b.b, b.c, b.d] = vs := ⟨_, rfl⟩
  have hvl : vs.length = 4 := by rw [← hvs]; rfl
  have HVA : (#[b.a, b.b, b.c, b.d] : Array Value) = vs.toArray := by rw [← hvs]
  have HI : Hid (c4 (insQ l i b) = c4 (l.take i) ++ (vs ++ c4 (l.drop i))) := by show _ = _; rw [insQ_vals, hvs]
  rw [HVA] at hv hvc
  rw [hvs] at hvc hv1
  have HVC : Hid _ := hvc
  clear hvs HVA hvc
  have a1 : (i : Int) ≤ cap := by omega
  have a2 : ((1 : Int) == 0) = false := by decide
  have a3 : (cap : Int) ≤ cap := by omega
  obtain ⟨XS, hXS⟩ : ∃ XS, XS = c4 (l.drop i) := ⟨_, rfl⟩
  have hXl : XS.length = (cap - i) * 4 := by rw [hXS, length_c4, List.length_drop, hll]
  have hX1 : ∀ u ∈ XS, u.oneCell' = true := by rw [hXS]; exact c4_oneCell _ (fun x hx => hl1 x (List.mem_of_mem_drop hx))
  have hXc : ∀ j u, XS[j]? = some u → cur[i * 4 + j]? = some u := by
    intro j u hu
    rw [hXS, ← c4_drop, List.getElem?_drop] at hu
    rw [← hcur, List.getElem?_take] at hu
    split at hu
    · exact hu
    · cases hu
  have HI2 : Hid (c4 (insQ l i b) = cur.take (i * 4) ++ (vs ++ XS)) := by
    show _ = _
    rw [HI.out, hXS, take_cut hcur (Nat.mul_le_mul_right 4 (show i ≤ cap by omega)), c4_take]
  have HXc : Hid _ := hXc
  clear hXS hXc HI hcur
  have b1 : ((i : Int) == (cap : Int)) = false := by simp; omega
  have b2 : ¬ (cap = i) := by omega
  have b3 : (i : Int) ≤ (cap : Int) + 1 := by omega
  have b4 : (i : Int) + 1 ≤ (cap : Int) + 1 := by omega
  have b5 : ((i : Int) + 1).toNat = i + 1 := by omega
  have b6 : ((cap : Int) + 1).toNat = cap + 1 := by omega
  have b7 : (0 : Int) ≤ (i : Int) + 1 := by omega
  have b8 : (0 : Int) ≤ (cap : Int) + 1 := by omega
  have b9 : i ≤ cap := by omega
  have b10 : i ≤ cap := by omega
  have b11 : (i : Int) ≤ cap := by omega
  have bw : IntKind.i64.wrap ((i : Int) + 1) = (i : Int) + 1 := by rw [IntKind.wrap_i64]; omega
  obtain ⟨K, hK⟩ : ∃ K : Nat, (cap : Int) + 1 - i = (K : Int) := ⟨cap + 1 - i, by omega⟩
  obtain ⟨cap', W, cur', hrun, R', ht, hc', hb'⟩ := grow_zeros (P := Try.prog) w 25 3 25 57 i1 _ 4 .i64 .i64 Try.underlying25 Try.underlying3 hj hy0 hy1 (by omega) rfl ⟨g, 0, none⟩ i cap (cur.take (i * 4)) (by rw [List.length_take]; omega) (fun j v hj => by
    rw [add_at, Nat.zero_add, R.cell]
    rw [List.getElem?_take] at hj
    split at hj
    · exact hj
    · cases hj) K (by omega) (by omega) (by unfold maxLen; omega) (by rw [hy2]; omega)
  have hiK : i + K = cap + 1 := by omega
  rw [hiK] at hrun hc'
  have hcl' := R'.len
  have hg' := R.lt
  have HR : Hid _ := hrun
  have c1 : ¬ (cap' = i) := by omega
  have c2 : ¬ (cap' = i + 1) := by omega
  have c3 : (cap : Int) < (cap : Int) + 1 := by omega
  have hv3 : W.heap[gv]? = some (.cells vs.toArray 57 (0, 0)) := (hb'.block gv (Array.getElem?_eq_some_iff.1 hv).1).trans hv
  have RW := R.below hb'
  clear hrun own
  go_enter Try.func104, Try.ntmps104
  go_wp2_with (first
    | (at_builtin; refine Lib.wpList_append_run _ rfl (.tmp 34) (.tmp 39) 25 3 rfl _ _ rfl rfl _ _ HR.out ?_)
    | (refine wpList_copy_k rfl (.tmp 43) (.tmp 44) 25 25 rfl 57 4 Try.underlying25 size_list _ _ _ _ _ _ rfl rfl w.heap.size (i * 4) cur' 57 R'.h vs 1 (by simp only [Nat.min_def]; split <;> omega) hvl (fun _ => ⟨rfl, _, rfl, fun j v hj => HVC.out j v hj W hv3⟩) (by omega) hv1 ?_; intro w2 hg2 hb2))
  have RD := (RW.but hb2 (by omega)).below (Below.refl w2.heap.size w2).drew
  have hgd : w2.drew.heap[w.heap.size]? = some (.cells (splice cur' (i * 4) vs).toArray 57 (0, 0)) := hg2.out
  go_region_law (refine step_copy_k rfl (.tmp 50) (.tmp 53) 25 25 rfl 57 4 Try.underlying25 size_list (some ⟨w.heap.size, (i + 1) * 4, none⟩) (some ⟨g, i * 4, none⟩) (cap - i) (cap' - (i + 1)) (cap - i) (cap - i) (by simp [Act.eval, Act.put]) (by simp [Act.eval, Act.put]) w.heap.size ((i + 1) * 4) (splice cur' (i * 4) vs) 57 hgd XS (cap - i) (by simp only [Nat.min_def]; split <;> omega) hXl (fun _ => ⟨rfl, _, rfl, fun j v hj => by rw [add_at, RD.cell]; exact HXc.out j v hj⟩) (by rw [length_splice _ _ _ (by omega)]; omega) hX1 ?_; intro w3 hg3 hb3)
  all_goals
    clear RD
    go_wp2
    go_ret
    have e3 : (i + 1) * 4 = i * 4 + vs.length := by omega
    have hl2 : (splice (splice cur' (i * 4) vs) ((i + 1) * 4) XS).length = cap' * 4 := by rw [length_splice _ _ _ (by rw [length_splice _ _ _ (by omega)]; omega), length_splice _ _ _ (by omega)]; exact hcl'
    have R2 : Row w3 57 4 w.heap.size cap' (splice (splice cur' (i * 4) vs) ((i + 1) * 4) XS) := ⟨hg3.out, hl2, R'.m⟩
    refine ⟨w.heap.size, cap', rfl, R2.owns (by omega) hc' ?_, ?_, .inr (Nat.le_refl _)⟩
    · rw [HI2.out, e3, show (cap + 1) * 4 = i * 4 + vs.length + XS.length by omega, splice_two_a (by omega), ht]
    · have hbl : Below w.heap.size w w3 := hb'.trans ((hb2.trans ((But.of_below (Below.refl _ _).drew).trans hb3)).below (Nat.le_refl _) hb'.size)
      exact .of_below hbl

end Go.Proofs.Ytbjlbmofdnkmiaa

/-
  OWN TEXT. Contract of slices.Insert at one list: all ways.
-/
namespace Go.Proofs.Ytbjlbmofdnkmiaa
open Go Go.RowKit Go.Proofs.Ytbjlbmofdnkmiaa.Kit

theorem lIns_any (w : World) (base g N cap i gv : Nat) (l : List Q4) (b : Q4) (hi : i ≤ N) (hN : N ≤ 300) (hl1 : ∀ x ∈ l, x.One) (hb1 : b.One) (own : w.ownsRow base 57 4 (.slice (some ⟨g, 0, none⟩) N cap) N (c4 l)) (hv : w.heap[gv]? = some (.cells #[b.a, b.b, b.c, b.d] 57 (0, 0))) (hne : gv ≠ g) :
    Calls Try.prog 104 #[.slice (some ⟨g, 0, none⟩) N cap, .int .i64 i, .slice (some ⟨gv, 0, none⟩) 1 1] w fun e w' => RetRowL w w' base g (N + 1) (insQ l i b) e := by
  have := owns_cap own
  by_cases h1 : i = N
  · exact lIns_end w base g N cap i gv l b h1 hN hl1 hb1 own hv hne
  · by_cases h2 : N + 1 ≤ cap
    · exact lIns_shift w base g N cap i gv l b (by omega) hN hl1 hb1 h2 own hv hne
    · exact lIns_grow w base g N cap i gv l b (by omega) hN hl1 hb1 (by omega) own hv hne

end Go.Proofs.Ytbjlbmofdnkmiaa

/-
  OWN TEXT. Contract of slices.Insert at one list of pages: at no slice; of both: whatever the slice.
-/
namespace Go.Proofs.Ytbjlbmofdnkmiaa
open Go Go.RowKit Go.Proofs.Ytbjlbmofdnkmiaa.Kit

set_option maxHeartbeats 2000000 in
theorem lIns_nil (w : World) (base gv : Nat) (b : Q4) (hb1 : b.One) (hbs : base ≤ w.heap.size) (hv : w.heap[gv]? = some (.cells #[b.a, b.b, b.c, b.d] 57 (0, 0))) :
    Calls Try.prog 104 #[.slice none 0 0, .int .i64 0, .slice (some ⟨gv, 0, none⟩) 1 1] w fun e w' =>
      ∃ g' cap', e = .returned (.slice (some ⟨g', 0, none⟩) 1 cap') ∧ w'.ownsRow base 57 4 (.slice (some ⟨g', 0, none⟩) 1 cap') 1 (c4 [b]) ∧ w.heap.size ≤ g' ∧ Below w.heap.size w w' := by
  obtain ⟨i1, hj, hy0, hy1, hy2⟩ := info_parts info_list
  have hvc : ∀ j v, ([b.a, b.b, b.c, b.d] : List Value)[j]? = some v → w.cell? ((⟨gv, 0, none⟩ : Addr).add j) = some v := by
    intro j v hjv
    rw [add_at, Nat.zero_add]
    simp only [World.cell?, hv]
    simpa using hjv
  have hv1 := q4_one hb1
  obtain ⟨vs, hvs⟩ : ∃ vs : List Value, [b.a, b.b, b.c, b.d] = vs := ⟨_, rfl⟩
  have hvl : vs.length = 1 * 4 := by rw [← hvs]; rfl
  have hc4 : Hid (c4 [b] = vs) := by show _ = _; rw [← hvs]; rfl
  rw [hvs] at hvc hv1
  clear hvs hv
  obtain ⟨v', w1, hrun, hown, hgrow, _⟩ := run_append_own (P := Try.prog) w w.heap.size 25 25 57 i1 (.agg #[.int .i64 0, .int .i64 0, .int .i64 0, .slice none 0 0]) 4 48 Try.underlying25 hj hy0 hy1 hy2 rfl (by decide) (.slice none 0 0) 0 [] (World.ownsRow_nil _ _ _ _) ⟨gv, 0, none⟩ 1 1 vs hvl hvc hv1 (by unfold maxLen; omega) (by omega) (Nat.le_refl _)
  rw [List.nil_append, Nat.zero_add] at hown
  have hb' : Below w.heap.size w w1 := (Below.refl _ _).grown hgrow (Nat.le_refl _) (by simp [Value.ownBlock])
  have hsh : ∃ g' cap', v' = .slice (some ⟨g', 0, none⟩) 1 cap' ∧ w.heap.size ≤ g' := by
    rcases hown.2 with ⟨e1, e2⟩ | ⟨g, cap', cur, e1, hB, _⟩
    · cases e2
    · exact ⟨g, cap', e1, hB⟩
  obtain ⟨g', cap', rfl, hg'⟩ := hsh
  replace hown := owns_weaken hown hbs
  have HR : Hid _ := hrun
  clear hrun hgrow
  go_enter Try.func104, Try.ntmps104
  go_wp2_with (at_builtin; refine Lib.wpList_append_run _ rfl (.tmp 23) (.tmp 24) 25 25 rfl _ _ rfl rfl _ _ HR.out ?_)
  all_goals
    go_ret
    exact ⟨g', cap', rfl, by rw [hc4.out]; exact hown, hg', hb'⟩

/-- A row of lists is written, or there was none: only new memory is. -/
def WrL (lo : Option Addr) (g' : Nat) (w w' : World) : Prop :=
  (∃ g, lo = some ⟨g, 0, none⟩ ∧ But g w w' ∧ (g' = g ∨ w.heap.size ≤ g')) ∨ (lo = none ∧ Below w.heap.size w w' ∧ w.heap.size ≤ g')
theorem lIns_all (w : World) (base n cap i gv : Nat) (lo : Option Addr) (l : List Q4) (b : Q4) (hi : i ≤ n) (hN : n ≤ 300) (hl1 : ∀ x ∈ l, x.One) (hb1 : b.One) (hbs : base ≤ w.heap.size) (own : w.ownsRow base 57 4 (.slice lo n cap) n (c4 l)) (hv : w.heap[gv]? = some (.cells #[b.a, b.b, b.c, b.d] 57 (0, 0))) (hne : ∀ a, lo = some a → gv ≠ a.block) :
    Calls Try.prog 104 #[.slice lo n cap, .int .i64 i, .slice (some ⟨gv, 0, none⟩) 1 1] w fun e w' =>
      ∃ g' cap', e = .returned (.slice (some ⟨g', 0, none⟩) (n + 1 : Nat) cap') ∧ w'.ownsRow base 57 4 (.slice (some ⟨g', 0, none⟩) (n + 1) cap') (n + 1) (c4 (insQ l i b)) ∧ WrL lo g' w w' := by
  cases lo with
  | none =>
    rcases own.2 with ⟨e1, e2⟩ | ⟨g, cap', cur, e1, _⟩
    · simp only [Value.slice.injEq, true_and] at e1
      obtain ⟨rfl, rfl⟩ := e1
      have hl : l = [] := List.eq_nil_of_length_eq_zero (by have := own.1; rw [length_c4] at this; omega)
      subst hl
      obtain rfl : i = 0 := by omega
      refine (lIns_nil w base gv b hb1 hbs hv).mono ?_
      rintro e w' ⟨g', cap', rfl, h1, h2, h3⟩
      exact ⟨g', cap', rfl, h1, .inr ⟨rfl, h3, h2⟩⟩
    · cases e1
  | some a =>
    obtain ⟨g, rfl⟩ : ∃ g, a = ⟨g, 0, none⟩ := by
      rcases own.2 with ⟨e1, _⟩ | ⟨g, cap', cur, e1, _⟩
      · cases e1
      · simp only [Value.slice.injEq, Option.some.injEq] at e1
        exact ⟨g, e1.1⟩
    refine (lIns_any w base g n cap i gv l b hi hN hl1 hb1 own hv (hne _ rfl)).mono ?_
    rintro e w' ⟨g', cap', rfl, h1, h2, h3⟩
    exact ⟨g', cap', rfl, h1, .inl ⟨g, rfl, h2, h3⟩⟩

end Go.Proofs.Ytbjlbmofdnkmiaa
