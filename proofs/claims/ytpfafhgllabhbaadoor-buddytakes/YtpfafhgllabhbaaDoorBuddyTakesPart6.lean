/-
  OWN TEXTS, bundled: AppK2, BIns, BIns2, BIns3, BIns4, ZcPut, Peel.
-/
import Derived.Test.YtpfafhgllabhbaaDoorBuddyTakesPart4
import Derived.Test.YtpfafhgllabhbaaDoorBuddyTakesPart5
import Derived.Deep.RegionWith
import Derived.Test.YtpfafhgllabhbaaDoorBuddyTakesPart1
import Derived.OrdersHeld

/-
  OWN TEXT. Rows that grow, and what two copies leave; over whatever program.
-/
namespace Go.Proofs.YtpfafhgllabhbaaDoor.Kit
open Go Go.RowKit

theorem row_new {w : World} {e : TypeId} {size cap : Nat} {A : Array Value} (hs : A.size = cap * size) (hm : cap ≤ maxLen) : Row (w.drew.alloc (.cells A e)) e size w.heap.size cap A.toList := by
  refine ⟨?_, by simpa using hs, hm⟩
  have := heap_alloc_new w.drew (.cells A e)
  simpa using this
theorem below_new (w : World) (o : Obj) : Below w.heap.size w (w.drew.alloc o) := ((Below.refl _ _).drew).alloc (Nat.le_refl _) o

theorem grow_some {P : Program} (w : World) (t ty e : TypeId) (i : TypeInfo) (z : Value) (size : Nat) (ht : P.underlying t = some (.slice e)) (hi : P.info? e = some i) (hz : i.zero = some z) (hsz : i.size = size) (hzs : z.cells.size = size)
    (b : Addr) (sLen sCap : Nat) (olds : List Value) (hlo : olds.length = sLen * size) (holds : ∀ j v, olds[j]? = some v → w.cell? (b.add j) = some v)
    (a : Addr) (n c : Nat) (news : List Value) (hl : news.length = n * size) (hnews : ∀ j v, news[j]? = some v → w.cell? (a.add j) = some v)
    (hg : sCap < sLen + n) (hm : sLen + n ≤ maxLen) (hby : (sLen + n) * i.bytes ≤ 140737488355328) :
    ∃ cap' W cur, (Builtin.append_ #[t, t] ty #[.slice (some b) sLen sCap, .slice (some a) n c]).run P w = .ok (.slice (some ⟨w.heap.size, 0, none⟩) (sLen + n) cap') W ∧
      Row W e size w.heap.size cap' cur ∧ cur.take ((sLen + n) * size) = olds ++ news ∧ sLen + n ≤ cap' ∧ Below w.heap.size w W := by
  subst hsz
  have h63 : ((sLen + n : Nat) : Int) ≤ 9223372036854775807 := by simp only [maxLen] at hm; omega
  have hr := run_append_grow (P := P) w t ty e i z ht hi hz b sLen sCap olds hlo holds a n c news hl hnews hg h63 (growslice_fits hg hby)
  have hc1 := grownCap_ge w (sLen + n) sCap e
  have hc2 := grownCap_le_maxLen w (sLen + n) sCap e hm
  refine ⟨_, _, _, hr, row_new ?_ hc2, ?_, hc1, below_new _ _⟩
  · simp only [Array.size_append, List.size_toArray, size_zeroCells, hlo, hl, hzs]
    rw [← Nat.add_mul, ← Nat.add_mul]
    congr 1
    omega
  · simp only [Array.toList_append]
    rw [List.take_append_of_le_length (by simp [hlo, hl, Nat.add_mul]), List.take_of_length_le (by simp [hlo, hl, Nat.add_mul])]

theorem grow_zeros {P : Program} (w : World) (t tn ty e : TypeId) (i : TypeInfo) (z : Value) (size : Nat) (kq kn : IntKind) (ht : P.underlying t = some (.slice e)) (htn : P.underlying tn = some (.int kn)) (hi : P.info? e = some i) (hz : i.zero = some z) (hsz : i.size = size) (hs0 : 0 < size) (hzs : z.cells.size = size)
    (b : Addr) (sLen sCap : Nat) (olds : List Value) (hlo : olds.length = sLen * size) (holds : ∀ j v, olds[j]? = some v → w.cell? (b.add j) = some v)
    (k : Nat) (h0 : 0 < k) (hg : sCap < sLen + k) (hm : sLen + k ≤ maxLen) (hby : (sLen + k) * i.bytes ≤ 140737488355328) :
    ∃ cap' W cur, (Builtin.append_ #[t, tn] ty #[.slice (some b) sLen sCap, .int kq k]).run P w = .ok (.slice (some ⟨w.heap.size, 0, none⟩) (sLen + k) cap') W ∧
      Row W e size w.heap.size cap' cur ∧ cur.take (sLen * size) = olds ∧ sLen + k ≤ cap' ∧ Below w.heap.size w W := by
  subst hsz
  have h63 : ((sLen + k : Nat) : Int) ≤ 9223372036854775807 := by simp only [maxLen] at hm; omega
  have hold : (Builtin.firstCells i.size sLen (.slice (some b) sLen sCap)).run P w.drew = .ok olds.toArray w.drew :=
    run_firstCells_some w.drew i.size sLen b sLen sCap olds hlo (fun j v hj => by simpa using holds j v hj)
  have h48 : k * i.bytes ≤ 281474976710656 := by have := Nat.mul_le_mul_right i.bytes (show k ≤ sLen + k by omega); omega
  have hr := Go.Lib.run_append_grow_zeros (P := P) w t tn ty e i z kq kn ht htn hi hz (some b) sLen sCap olds hold k h0 hs0 hg h63 h48 (growslice_fits hg hby)
  have hc1 := grownCap_ge w (sLen + k) sCap e
  have hc2 := grownCap_le_maxLen w (sLen + k) sCap e hm
  refine ⟨_, _, _, hr, row_new ?_ hc2, ?_, hc1, below_new _ _⟩
  · simp only [Array.size_append, List.size_toArray, size_zeroCells, hlo, hzs]
    rw [← Nat.add_mul, ← Nat.add_mul]
    congr 1
    omega
  · simp only [Array.toList_append, List.append_assoc]
    rw [List.take_append_of_le_length (by simp [hlo]), List.take_of_length_le (by simp [hlo])]

theorem splice_two_a {α : Type} {L X Y : List α} {p : Nat} (h : p + X.length + Y.length ≤ L.length) : (splice (splice L p X) (p + X.length) Y).take (p + X.length + Y.length) = L.take p ++ (X ++ Y) := by
  have e : (splice L p X).take (p + X.length) = L.take p ++ X := by
    unfold splice
    rw [← List.append_assoc, List.take_append_of_le_length (by simp; omega), List.take_of_length_le (by simp; omega)]
  show (List.take (p + X.length) (splice L p X) ++ (Y ++ _)).take _ = _
  rw [e, ← List.append_assoc, List.take_append_of_le_length (by simp; omega), List.take_of_length_le (by simp; omega), List.append_assoc]

theorem splice_two_b {α : Type} {L X Y : List α} {p : Nat} (h : p + X.length + Y.length ≤ L.length) : (splice (splice L (p + X.length) Y) p X).take (p + X.length + Y.length) = L.take p ++ (X ++ Y) := by
  have e1 : (splice L (p + X.length) Y).take p = L.take p := splice_take (by omega) (by omega)
  have e2 : (splice L (p + X.length) Y).drop (p + X.length) = Y ++ L.drop (p + X.length + Y.length) := by
    unfold splice
    rw [List.drop_append_of_le_length (by simp; omega), List.drop_of_length_le (by simp; omega), List.nil_append]
  show (List.take p (splice L (p + X.length) Y) ++ (X ++ List.drop (p + X.length) (splice L (p + X.length) Y))).take _ = _
  rw [e1, e2, ← List.append_assoc, ← List.append_assoc, List.take_append_of_le_length (by simp; omega), List.take_of_length_le (by simp; omega), List.append_assoc]

end Go.Proofs.YtpfafhgllabhbaaDoor.Kit

/-
  OWN TEXT. Contract of slices.Insert at one block.
-/
namespace Go.Proofs.YtpfafhgllabhbaaDoor
open Go Go.RowKit Go.Proofs.YtpfafhgllabhbaaDoor.Kit

/-- A list with one more at a place. -/
def insB (l : List Bk) (i : Nat) (b : Bk) : List Bk := l.take i ++ b :: l.drop i
theorem insB_vals (l : List Bk) (i : Nat) (b : Bk) : bvals (insB l i b) = bvals (l.take i) ++ ([.int .i64 b.a, .int .i64 b.o, .int .i64 b.t] ++ bvals (l.drop i)) := by
  unfold insB
  rw [bvals_append]
  rfl

/-- What is returned: a row of n blocks, the old block or a new one. -/
def RetRow (w w' : World) (base g n : Nat) (l : List Bk) (e : Ending) : Prop :=
  ∃ g' cap', e = .returned (.slice (some ⟨g', 0, none⟩) n cap') ∧ w'.ownsRow base 42 3 (.slice (some ⟨g', 0, none⟩) n cap') n (bvals l) ∧ But g w w' ∧ (g' = g ∨ w.heap.size ≤ g')

theorem ov_false (w : World) (g gv off lb cb la ca : Nat) (cur vs : List Value) (cap kA : Nat) (R : Row w 42 3 g cap cur) (hv : w.heap[gv]? = some (.cells vs.toArray 42 (0, 0))) (hk : vs.length = kA) (hne : gv ≠ g) (hc : 0 < cap) :
    (callFunc 43 #[.slice (some ⟨gv, 0, none⟩) la ca, .slice (some ⟨g, off, none⟩) lb cb]).run Tryd.prog w = .ok (.value (.bool false)) w := by
  have hz : ∀ w, (Go.sizeOf 42).run Tryd.prog w = .ok 3 w := fun w => Tryd.sizeOf42 w
  rw [run_callFunc_extern Tryd.func43 (by kernel_rfl) (by kernel_rfl) (by kernel_rfl) (e := Extern.SlicesOverlaps.overlaps #[22, 22] #[4]) (by kernel_rfl),
    Lib.run_overlaps_apart w 22 4 42 Tryd.underlying22 3 hz ⟨gv, 0, none⟩ ⟨g, off, none⟩ la ca lb cb hne 42 42 kA (cap * 3) (by simp [World.shape?, hv, hk]) (by simp [World.shape?, R.h, R.len]) (by omega) (by simp [World.frozen?, hv]) (by simp [World.frozen?, hv])]
  rfl

set_option maxHeartbeats 2000000 in
theorem bIns_end (w : World) (base g N cap i gv : Nat) (l : List Bk) (b : Bk) (hi : i = N) (hN : N ≤ 300) (own : w.ownsRow base 42 3 (.slice (some ⟨g, 0, none⟩) N cap) N (bvals l)) (hv : w.heap[gv]? = some (.cells #[.int .i64 b.a, .int .i64 b.o, .int .i64 b.t] 42 (0, 0))) (_hne : gv ≠ g) :
    Calls Tryd.prog 42 #[.slice (some ⟨g, 0, none⟩) N cap, .int .i64 i, .slice (some ⟨gv, 0, none⟩) 1 1] w fun e w' => RetRow w w' base g (N + 1) (insB l i b) e := by
  obtain ⟨i1, hj, hy0, hy1, hy2⟩ := info_parts info_block
  have hll := bowns_len own
  obtain ⟨hbg, hnc, cur, R, hcur⟩ := Row.of own
  have hm := R.m
  have hml : N + 1 ≤ maxLen := by unfold maxLen; omega
  unfold maxLen at hm
  have hRl := R.len
  have hvc : ∀ j v, ([.int .i64 b.a, .int .i64 b.o, .int .i64 b.t] : List Value)[j]? = some v → ∀ W : World, W.heap[gv]? = some (.cells #[.int .i64 b.a, .int .i64 b.o, .int .i64 b.t] 42 (0, 0)) → W.cell? ((⟨gv, 0, none⟩ : Addr).add j) = some v := by
    intro j v hjv W hW
    rw [add_at, Nat.zero_add]
    simp only [World.cell?, hW]
    simpa using hjv
  have hv1 : ∀ u ∈ ([.int .i64 b.a, .int .i64 b.o, .int .i64 b.t] : List Value), u.oneCell' = true := ints_oneCell .i64 [_, _, _]
  obtain ⟨vs, hvs⟩ : ∃ vs : List Value, [.int .i64 b.a, .int .i64 b.o, .int .i64 b.t] = vs := ⟨_, rfl⟩
  have hvl : vs.length = 3 := by rw [← hvs]; rfl
  have HVA : (#[.int .i64 b.a, .int .i64 b.o, .int .i64 b.t] : Array Value) = vs.toArray := by rw [← hvs]
  have HI : Hid (bvals (insB l i b) = bvals (l.take i) ++ (vs ++ bvals (l.drop i))) := by show _ = _; rw [insB_vals, hvs]
  rw [HVA] at hv hvc
  rw [hvs] at hvc hv1
  have HVC : Hid _ := hvc
  clear hvs HVA hvc
  have a1 : (i : Int) ≤ N := by omega
  have a2 : ((1 : Int) == 0) = false := by decide
  have a3 : (N : Int) ≤ cap := by omega
  have HE : Hid (bvals l ++ vs = bvals (insB l i b)) := by
    show _ = _
    rw [HI.out, List.take_of_length_le (by omega), List.drop_of_length_le (by omega)]
    simp [bvals]
  subst hi
  have hc1 : ∀ j v, vs[j]? = some v → w.cell? ((⟨gv, 0, none⟩ : Addr).add j) = some v := fun j v h => HVC.out j v h w hv
  by_cases hroom : i + 1 ≤ cap
  · go_enter Tryd.func42, Tryd.ntmps42
    go_wp2_with (at_builtin; refine wpList_append_fits _ rfl (.tmp 23) (.tmp 24) 22 rfl base 42 i1 3 Tryd.underlying22 hj hy1 g i cap (bvals l) rfl own ⟨gv, 0, none⟩ 1 1 vs rfl hvl hc1 hv1 hroom ?_; intro w1 ho1 hb1)
    all_goals
      go_ret
      exact ⟨g, cap, rfl, by rw [← HE.out]; exact ho1, ⟨hb1.os, hb1.tape, hb1.output, hb1.size, fun k hk hne => hb1.block k hk (by intro g; exact hne (by simpa using g))⟩, .inl rfl⟩
  · have hold : ∀ j v, (bvals l)[j]? = some v → w.cell? ((⟨g, 0, none⟩ : Addr).add j) = some v := own.cells rfl
    obtain ⟨cap', W, cur', hrun, R', ht, hc', hb'⟩ := grow_some (P := Tryd.prog) w 22 22 42 i1 _ 3 Tryd.underlying22 hj hy0 hy1 rfl ⟨g, 0, none⟩ i cap (bvals l) own.1 hold ⟨gv, 0, none⟩ 1 1 vs hvl hc1 (by omega) hml (by rw [hy2]; omega)
    have ow' := R'.owns (base := base) (n := i + 1) (by have := R.lt; omega) hc' ht
    have HR : Hid _ := hrun
    clear hrun
    go_enter Tryd.func42, Tryd.ntmps42
    go_wp2_with (at_builtin; refine Lib.wpList_append_run _ rfl (.tmp 23) (.tmp 24) 22 22 rfl _ _ rfl rfl _ _ HR.out ?_)
    all_goals
      go_ret
      exact ⟨w.heap.size, cap', rfl, by rw [← HE.out]; exact ow', .of_below hb', .inr (Nat.le_refl _)⟩

end Go.Proofs.YtpfafhgllabhbaaDoor

/-
  OWN TEXT. Contract of slices.Insert at one block: there is room.
-/
namespace Go.Proofs.YtpfafhgllabhbaaDoor
open Go Go.RowKit Go.Proofs.YtpfafhgllabhbaaDoor.Kit

set_option maxHeartbeats 600000 in
theorem bIns_shift (w : World) (base g N cap i gv : Nat) (l : List Bk) (b : Bk) (hi : i < N) (hN : N ≤ 300) (hroom : N + 1 ≤ cap) (own : w.ownsRow base 42 3 (.slice (some ⟨g, 0, none⟩) N cap) N (bvals l)) (hv : w.heap[gv]? = some (.cells #[.int .i64 b.a, .int .i64 b.o, .int .i64 b.t] 42 (0, 0))) (hne : gv ≠ g) :
    Calls Tryd.prog 42 #[.slice (some ⟨g, 0, none⟩) N cap, .int .i64 i, .slice (some ⟨gv, 0, none⟩) 1 1] w fun e w' => RetRow w w' base g (N + 1) (insB l i b) e := by
  obtain ⟨i1, hj, hy0, hy1, hy2⟩ := info_parts info_block
  have hll := bowns_len own
  obtain ⟨hbg, hnc, cur, R, hcur⟩ := Row.of own
  have hm := R.m
  have hml : N + 1 ≤ maxLen := by unfold maxLen; omega
  unfold maxLen at hm
  have hRl := R.len
  have hvc : ∀ j v, ([.int .i64 b.a, .int .i64 b.o, .int .i64 b.t] : List Value)[j]? = some v → ∀ W : World, W.heap[gv]? = some (.cells #[.int .i64 b.a, .int .i64 b.o, .int .i64 b.t] 42 (0, 0)) → W.cell? ((⟨gv, 0, none⟩ : Addr).add j) = some v := by
    intro j v hjv W hW
    rw [add_at, Nat.zero_add]
    simp only [World.cell?, hW]
    simpa using hjv
  have hv1 : ∀ u ∈ ([.int .i64 b.a, .int .i64 b.o, .int .i64 b.t] : List Value), u.oneCell' = true := ints_oneCell .i64 [_, _, _]
  obtain ⟨vs, hvs⟩ : ∃ vs : List Value, [.int .i64 b.a, .int .i64 b.o, .int .i64 b.t] = vs := ⟨_, rfl⟩
  have hvl : vs.length = 3 := by rw [← hvs]; rfl
  have HVA : (#[.int .i64 b.a, .int .i64 b.o, .int .i64 b.t] : Array Value) = vs.toArray := by rw [← hvs]
  have HI : Hid (bvals (insB l i b) = bvals (l.take i) ++ (vs ++ bvals (l.drop i))) := by show _ = _; rw [insB_vals, hvs]
  rw [HVA] at hv hvc
  rw [hvs] at hvc hv1
  have HVC : Hid _ := hvc
  clear hvs HVA hvc
  have a1 : (i : Int) ≤ N := by omega
  have a2 : ((1 : Int) == 0) = false := by decide
  have a3 : (N : Int) ≤ cap := by omega
  obtain ⟨XS, hXS⟩ : ∃ XS, XS = bvals (l.drop i) := ⟨_, rfl⟩
  have hXl : XS.length = (N - i) * 3 := by rw [hXS, length_bvals, List.length_drop, hll]
  have hX1 : ∀ u ∈ XS, u.oneCell' = true := by rw [hXS]; exact bvals_oneCell _
  have hXc : ∀ j u, XS[j]? = some u → cur[i * 3 + j]? = some u := by
    intro j u hu
    rw [hXS, ← bvals_drop, List.getElem?_drop] at hu
    rw [← hcur, List.getElem?_take] at hu
    split at hu
    · exact hu
    · cases hu
  have HI2 : Hid (bvals (insB l i b) = cur.take (i * 3) ++ (vs ++ XS)) := by
    show _ = _
    rw [HI.out, hXS, take_cut hcur (Nat.mul_le_mul_right 3 (show i ≤ N by omega)), bvals_take]
  have HXc : Hid _ := hXc
  clear hXS hXc HI hcur
  have b1 : ((i : Int) == (N : Int)) = false := by simp; omega
  have b2 : ¬ (cap = i) := by omega
  have b3 : (i : Int) ≤ (N : Int) + 1 := by omega
  have b4 : (i : Int) + 1 ≤ (N : Int) + 1 := by omega
  have b5 : ((i : Int) + 1).toNat = i + 1 := by omega
  have b6 : ((N : Int) + 1).toNat = N + 1 := by omega
  have b7 : (0 : Int) ≤ (i : Int) + 1 := by omega
  have b8 : (0 : Int) ≤ (N : Int) + 1 := by omega
  have b9 : i ≤ N := by omega
  have b10 : i ≤ cap := by omega
  have b11 : (i : Int) ≤ cap := by omega
  have bw : IntKind.i64.wrap ((i : Int) + 1) = (i : Int) + 1 := by rw [IntKind.wrap_i64]; omega
  have hov : ∀ lb cb, (callFunc 43 #[.slice (some ⟨gv, 0, none⟩) 1 1, .slice (some ⟨g, (i + 1) * 3, none⟩) lb cb]).run Tryd.prog w = .ok (.value (.bool false)) w := fun lb cb => ov_false w g gv _ lb cb 1 1 cur vs cap 3 R hv hvl hne (by omega)
  have b12 : ¬ (cap = i + 1) := by omega
  have b13 : ¬ ((cap : Int) < (N : Int) + 1) := by omega
  have b14 : (N : Int) + 1 ≤ (cap : Int) := by omega
  have RD := R.below (Below.refl w.heap.size w).drew
  have hv2 : w.drew.heap[gv]? = some (.cells vs.toArray 42 (0, 0)) := hv
  clear own
  go_enter Tryd.func42, Tryd.ntmps42
  go_wp2_with (simp only [hov])
  go_region_law (refine step_copy_k rfl (.tmp 73) (.tmp 76) 22 22 rfl 42 3 Tryd.underlying22 size_block (some ⟨g, (i + 1) * 3, none⟩) (some ⟨g, i * 3, none⟩) (N - i) (cap - (i + 1)) (N + 1 - i) (cap - i) (by simp [Act.eval, Act.put]) (by simp [Act.eval, Act.put]) g ((i + 1) * 3) cur 42 RD.h XS (N - i) (by simp only [Nat.min_def]; split <;> omega) hXl (fun _ => ⟨rfl, _, rfl, fun j v hj => by rw [add_at, RD.cell]; exact HXc.out j v hj⟩) (by omega) hX1 ?_; intro w1 hg1 hb1)
  all_goals
    have hv3 : w1.heap[gv]? = some (.cells vs.toArray 42 (0, 0)) := (hb1.block gv (Array.getElem?_eq_some_iff.1 hv2).1 hne).trans hv2
    clear hov RD
    go_wp2_with (refine wpList_copy_k rfl (.tmp 80) (.tmp 81) 22 22 rfl 42 3 Tryd.underlying22 size_block _ _ _ _ _ _ rfl rfl g (i * 3) (splice cur ((i + 1) * 3) XS) 42 hg1.out vs 1 (by simp only [Nat.min_def]; split <;> omega) hvl (fun _ => ⟨rfl, _, rfl, fun j v hj => HVC.out j v hj w1 hv3⟩) (by rw [length_splice _ _ _ (by omega)]; omega) hv1 ?_; intro w2 hg2 hb2)
    go_ret
    have e3 : (i + 1) * 3 = i * 3 + vs.length := by omega
    have hl2 : (splice (splice cur ((i + 1) * 3) XS) (i * 3) vs).length = cap * 3 := by rw [length_splice _ _ _ (by rw [length_splice _ _ _ (by omega)]; omega), length_splice _ _ _ (by omega)]; exact hRl
    have R2 : Row w2 42 3 g cap (splice (splice cur ((i + 1) * 3) XS) (i * 3) vs) := ⟨hg2.out, hl2, R.m⟩
    refine ⟨g, cap, rfl, R2.owns hbg hroom ?_, ((But.of_below (Below.refl _ _).drew).trans hb1).trans hb2, .inl rfl⟩
    rw [HI2.out, e3, show (N + 1) * 3 = i * 3 + vs.length + XS.length by omega]
    exact splice_two_b (by omega)

end Go.Proofs.YtpfafhgllabhbaaDoor

/-
  OWN TEXT. Contract of slices.Insert at one block: there is no room.
-/
namespace Go.Proofs.YtpfafhgllabhbaaDoor
open Go Go.RowKit Go.Proofs.YtpfafhgllabhbaaDoor.Kit

set_option maxHeartbeats 600000 in
theorem bIns_grow (w : World) (base g N cap i gv : Nat) (l : List Bk) (b : Bk) (hi : i < N) (hN : N ≤ 300) (hroom : cap = N) (own : w.ownsRow base 42 3 (.slice (some ⟨g, 0, none⟩) N cap) N (bvals l)) (hv : w.heap[gv]? = some (.cells #[.int .i64 b.a, .int .i64 b.o, .int .i64 b.t] 42 (0, 0))) (_hne : gv ≠ g) :
    Calls Tryd.prog 42 #[.slice (some ⟨g, 0, none⟩) N cap, .int .i64 i, .slice (some ⟨gv, 0, none⟩) 1 1] w fun e w' => RetRow w w' base g (N + 1) (insB l i b) e := by
  subst hroom
  obtain ⟨i1, hj, hy0, hy1, hy2⟩ := info_parts info_block
  have hll := bowns_len own
  obtain ⟨hbg, hnc, cur, R, hcur⟩ := Row.of own
  have hm := R.m
  have hml : cap + 1 ≤ maxLen := by unfold maxLen; omega
  unfold maxLen at hm
  have hRl := R.len
  have hvc : ∀ j v, ([.int .i64 b.a, .int .i64 b.o, .int .i64 b.t] : List Value)[j]? = some v → ∀ W : World, W.heap[gv]? = some (.cells #[.int .i64 b.a, .int .i64 b.o, .int .i64 b.t] 42 (0, 0)) → W.cell? ((⟨gv, 0, none⟩ : Addr).add j) = some v := by
    intro j v hjv W hW
    rw [add_at, Nat.zero_add]
    simp only [World.cell?, hW]
    simpa using hjv
  have hv1 : ∀ u ∈ ([.int .i64 b.a, .int .i64 b.o, .int .i64 b.t] : List Value), u.oneCell' = true := ints_oneCell .i64 [_, _, _]
  obtain ⟨vs, hvs⟩ : ∃ vs : List Value, [.int .i64 b.a, .int .i64 b.o, .int .i64 b.t] = vs := ⟨_, rfl⟩
  have hvl : vs.length = 3 := by rw [← hvs]; rfl
  have HVA : (#[.int .i64 b.a, .int .i64 b.o, .int .i64 b.t] : Array Value) = vs.toArray := by rw [← hvs]
  have HI : Hid (bvals (insB l i b) = bvals (l.take i) ++ (vs ++ bvals (l.drop i))) := by show _ = _; rw [insB_vals, hvs]
  rw [HVA] at hv hvc
  rw [hvs] at hvc hv1
  have HVC : Hid _ := hvc
  clear hvs HVA hvc
  have a1 : (i : Int) ≤ cap := by omega
  have a2 : ((1 : Int) == 0) = false := by decide
  have a3 : (cap : Int) ≤ cap := by omega
  obtain ⟨XS, hXS⟩ : ∃ XS, XS = bvals (l.drop i) := ⟨_, rfl⟩
  have hXl : XS.length = (cap - i) * 3 := by rw [hXS, length_bvals, List.length_drop, hll]
  have hX1 : ∀ u ∈ XS, u.oneCell' = true := by rw [hXS]; exact bvals_oneCell _
  have hXc : ∀ j u, XS[j]? = some u → cur[i * 3 + j]? = some u := by
    intro j u hu
    rw [hXS, ← bvals_drop, List.getElem?_drop] at hu
    rw [← hcur, List.getElem?_take] at hu
    split at hu
    · exact hu
    · cases hu
  have HI2 : Hid (bvals (insB l i b) = cur.take (i * 3) ++ (vs ++ XS)) := by
    show _ = _
    rw [HI.out, hXS, take_cut hcur (Nat.mul_le_mul_right 3 (show i ≤ cap by omega)), bvals_take]
  have HXc : Hid _ := hXc
  clear hXS hXc HI hcur
  have b1 : ((i : Int) == (cap : Int)) = false := by simp; omega
  have b2 : ¬ (cap = i) := by omega
  have b3 : (i : Int) ≤ (cap : Int) + 1 := by omega
  have b4 : (i : Int) + 1 ≤ (cap : Int) + 1 := by omega
  have b5 : ((i : Int) + 1).toNat = i + 1 := by omega
  have b6 : ((cap : Int) + 1).toNat = cap + 1 := by omega
  have b7 : (0 : Int) ≤ (i : Int) + 1 := by omega
  have b8 : (0 : Int) ≤ (cap : Int) + 1 := by omega
  have b9 : i ≤ cap := by omega
  have b10 : i ≤ cap := by omega
  have b11 : (i : Int) ≤ cap := by omega
  have bw : IntKind.i64.wrap ((i : Int) + 1) = (i : Int) + 1 := by rw [IntKind.wrap_i64]; omega
  obtain ⟨K, hK⟩ : ∃ K : Nat, (cap : Int) + 1 - i = (K : Int) := ⟨cap + 1 - i, by omega⟩
  obtain ⟨cap', W, cur', hrun, R', ht, hc', hb'⟩ := grow_zeros (P := Tryd.prog) w 22 3 22 42 i1 _ 3 .i64 .i64 Tryd.underlying22 Tryd.underlying3 hj hy0 hy1 (by omega) rfl ⟨g, 0, none⟩ i cap (cur.take (i * 3)) (by rw [List.length_take]; omega) (fun j v hj => by
    rw [add_at, Nat.zero_add, R.cell]
    rw [List.getElem?_take] at hj
    split at hj
    · exact hj
    · cases hj) K (by omega) (by omega) (by unfold maxLen; omega) (by rw [hy2]; omega)
  have hiK : i + K = cap + 1 := by omega
  rw [hiK] at hrun hc'
  have hcl' := R'.len
  have hg' := R.lt
  have HR : Hid _ := hrun
  have c1 : ¬ (cap' = i) := by omega
  have c2 : ¬ (cap' = i + 1) := by omega
  have c3 : (cap : Int) < (cap : Int) + 1 := by omega
  have hv3 : W.heap[gv]? = some (.cells vs.toArray 42 (0, 0)) := (hb'.block gv (Array.getElem?_eq_some_iff.1 hv).1).trans hv
  have RW := R.below hb'
  clear hrun own
  go_enter Tryd.func42, Tryd.ntmps42
  go_wp2_with (first
    | (at_builtin; refine Lib.wpList_append_run _ rfl (.tmp 34) (.tmp 39) 22 3 rfl _ _ rfl rfl _ _ HR.out ?_)
    | (refine wpList_copy_k rfl (.tmp 43) (.tmp 44) 22 22 rfl 42 3 Tryd.underlying22 size_block _ _ _ _ _ _ rfl rfl w.heap.size (i * 3) cur' 42 R'.h vs 1 (by simp only [Nat.min_def]; split <;> omega) hvl (fun _ => ⟨rfl, _, rfl, fun j v hj => HVC.out j v hj W hv3⟩) (by omega) hv1 ?_; intro w2 hg2 hb2))
  have RD := (RW.but hb2 (by omega)).below (Below.refl w2.heap.size w2).drew
  have hgd : w2.drew.heap[w.heap.size]? = some (.cells (splice cur' (i * 3) vs).toArray 42 (0, 0)) := hg2.out
  go_region_law (refine step_copy_k rfl (.tmp 50) (.tmp 53) 22 22 rfl 42 3 Tryd.underlying22 size_block (some ⟨w.heap.size, (i + 1) * 3, none⟩) (some ⟨g, i * 3, none⟩) (cap - i) (cap' - (i + 1)) (cap - i) (cap - i) (by simp [Act.eval, Act.put]) (by simp [Act.eval, Act.put]) w.heap.size ((i + 1) * 3) (splice cur' (i * 3) vs) 42 hgd XS (cap - i) (by simp only [Nat.min_def]; split <;> omega) hXl (fun _ => ⟨rfl, _, rfl, fun j v hj => by rw [add_at, RD.cell]; exact HXc.out j v hj⟩) (by rw [length_splice _ _ _ (by omega)]; omega) hX1 ?_; intro w3 hg3 hb3)
  all_goals
    clear RD
    go_wp2
    go_ret
    have e3 : (i + 1) * 3 = i * 3 + vs.length := by omega
    have hl2 : (splice (splice cur' (i * 3) vs) ((i + 1) * 3) XS).length = cap' * 3 := by rw [length_splice _ _ _ (by rw [length_splice _ _ _ (by omega)]; omega), length_splice _ _ _ (by omega)]; exact hcl'
    have R2 : Row w3 42 3 w.heap.size cap' (splice (splice cur' (i * 3) vs) ((i + 1) * 3) XS) := ⟨hg3.out, hl2, R'.m⟩
    refine ⟨w.heap.size, cap', rfl, R2.owns (by omega) hc' ?_, ?_, .inr (Nat.le_refl _)⟩
    · rw [HI2.out, e3, show (cap + 1) * 3 = i * 3 + vs.length + XS.length by omega, splice_two_a (by omega), ht]
    · have hbl : Below w.heap.size w w3 := hb'.trans ((hb2.trans ((But.of_below (Below.refl _ _).drew).trans hb3)).below (Nat.le_refl _) hb'.size)
      exact .of_below hbl

end Go.Proofs.YtpfafhgllabhbaaDoor

/-
  OWN TEXT. Contract of slices.Insert at one block: all ways.
-/
namespace Go.Proofs.YtpfafhgllabhbaaDoor
open Go Go.RowKit Go.Proofs.YtpfafhgllabhbaaDoor.Kit

theorem bIns_any (w : World) (base g N cap i gv : Nat) (l : List Bk) (b : Bk) (hi : i ≤ N) (hN : N ≤ 300) (own : w.ownsRow base 42 3 (.slice (some ⟨g, 0, none⟩) N cap) N (bvals l)) (hv : w.heap[gv]? = some (.cells #[.int .i64 b.a, .int .i64 b.o, .int .i64 b.t] 42 (0, 0))) (hne : gv ≠ g) :
    Calls Tryd.prog 42 #[.slice (some ⟨g, 0, none⟩) N cap, .int .i64 i, .slice (some ⟨gv, 0, none⟩) 1 1] w fun e w' => RetRow w w' base g (N + 1) (insB l i b) e := by
  have := owns_cap own
  by_cases h1 : i = N
  · exact bIns_end w base g N cap i gv l b h1 hN own hv hne
  · by_cases h2 : N + 1 ≤ cap
    · exact bIns_shift w base g N cap i gv l b (by omega) hN h2 own hv hne
    · exact bIns_grow w base g N cap i gv l b (by omega) hN (by omega) own hv hne

end Go.Proofs.YtpfafhgllabhbaaDoor

/-
  OWN TEXT. Contract of the code: buddy.put.
-/
namespace Go.Proofs.YtpfafhgllabhbaaDoor
open Go Go.RowKit Go.Proofs.YtpfafhgllabhbaaDoor.Kit

theorem shl_one (o : Int) (h : ordOk o) (W : World) : (binOp .shl 3 (.int .i64 1) (.int .i64 o)).run Tryd.prog W = .ok (.int .i64 (pw o)) W := by
  rcases ord_cases h with ⟨rfl, e⟩ | ⟨rfl, e⟩ | ⟨rfl, e⟩ | ⟨rfl, e⟩ | ⟨rfl, e⟩ <;> (rw [e]; rfl)

set_option maxHeartbeats 2000000 in
theorem putF1_any (W : World) (b1 b2 : Nat) (E a : Int) (ba bo bt : Int) (c1 : W.cell? ⟨b1, 0, none⟩ = some (.int .i64 E)) (c2 : W.cell? ⟨b2, 0, none⟩ = some (.int .i64 a)) (ho : ordOk bo) (h0 : 0 ≤ ba) (h1 : ba ≤ 256) :
    Calls Tryd.prog 53 (#[.agg #[.int .i64 ba, .int .i64 bo, .int .i64 bt]] ++ #[.pointer (some ⟨b1, 0, none⟩), .pointer (some ⟨b2, 0, none⟩)]) W fun e W' => e = .returned (.bool (ovl1 E a ⟨ba, bo, bt⟩)) ∧ Below W.heap.size W W' := by
  have hb0 := below_box W (.cells #[.int .i64 ba, .int .i64 bo, .int .i64 bt] 42)
  have d1 := keep c1 hb0
  have d2 := keep c2 hb0
  have l0 : (W.alloc (.cells #[.int .i64 ba, .int .i64 bo, .int .i64 bt] 42)).cell? ⟨W.heap.size, 0, none⟩ = some (.int .i64 ba) := by go_simp
  have l1 : (W.alloc (.cells #[.int .i64 ba, .int .i64 bo, .int .i64 bt] 42)).cell? ⟨W.heap.size, 1, none⟩ = some (.int .i64 bo) := by go_simp
  have l2 : (W.alloc (.cells #[.int .i64 ba, .int .i64 bo, .int .i64 bt] 42)).cell? ⟨W.heap.size, 2, none⟩ = some (.int .i64 bt) := by go_simp
  obtain ⟨W0, hW0⟩ : ∃ W0, W.alloc (.cells #[.int .i64 ba, .int .i64 bo, .int .i64 bt] 42) = W0 := ⟨_, rfl⟩
  rw [hW0] at hb0 d1 d2 l0 l1 l2
  have HW0 : Hid _ := hW0
  obtain ⟨T, hT⟩ : ∃ T, ba + pw bo = T := ⟨_, rfl⟩
  have HB : Hid (∀ V, Below W0.heap.size W0 V → Calls Tryd.prog 41 #[.agg #[.int .i64 ba, .int .i64 bo, .int .i64 bt]] V fun e w' => e = .returned (.int .i64 T) ∧ Below W0.heap.size W0 w') := fun V hS => by
    rw [← hT]
    refine (behind_any V ba bo bt ho h0 h1).mono ?_
    rintro e w' ⟨rfl, hb⟩
    exact ⟨rfl, hS.trans (hb.mono hS.size)⟩
  have S0 : Below W0.heap.size W0 W0 := Below.refl _ _
  have m1 : ∀ wx, Below W0.heap.size W0 wx → wx.cell? ⟨b1, 0, none⟩ = some (.int .i64 E) := fun wx h => keep d1 h
  have m2 : ∀ wx, Below W0.heap.size W0 wx → wx.cell? ⟨b2, 0, none⟩ = some (.int .i64 a) := fun wx h => keep d2 h
  clear c1 c2 hW0
  by_cases g1 : ba < E
  · have HF : Hid (decide (a < T) = ovl1 E a ⟨ba, bo, bt⟩) := by
      show _ = decide (_ ∧ _)
      rw [← hT]; simp [g1]
    have g1' : decide (ba < E) = true := decide_eq_true g1
    clear hT
    go_enter Tryd.func53, Tryd.ntmps53
    go_wp2_with (rw [HW0.out])
    go_region_with (first | (go_at_call 41; refine (HB.out _ ?_).mono ?_; (first | exact Below.drew S0 | assumption); rintro e w6 ⟨rfl, hS6⟩; have a0 := m1 _ hS6; have a1 := m2 _ hS6))
    all_goals
      go_wp2
      go_ret
      exact ⟨ret_bool HF.out, hb0.trans (hS6.mono hb0.size)⟩
  · have HF : Hid (false = ovl1 E a ⟨ba, bo, bt⟩) := by
      show _ = decide (_ ∧ _)
      simp [g1]
    have g1' : decide (ba < E) = false := decide_eq_false g1
    clear hT
    go_enter Tryd.func53, Tryd.ntmps53
    go_wp2_with (rw [HW0.out])
    go_region_with (first | (go_at_call 41; refine (HB.out _ ?_).mono ?_; (first | exact Below.drew S0 | assumption); rintro e w6 ⟨rfl, hS6⟩; have a0 := m1 _ hS6; have a1 := m2 _ hS6))
    all_goals
      go_wp2
      go_ret
      exact ⟨ret_bool HF.out, hb0.trans ((Below.drew S0).mono hb0.size)⟩
theorem putF1_call (args : Array Value) (W : World) : (callFunc 53 args).run Tryd.prog W = .ok (.enter 53 args) W := by kernel_rfl

set_option maxHeartbeats 1000000 in
theorem putF2_any (W : World) (b1 : Nat) (a : Int) (ba bo bt : Int) (c1 : W.cell? ⟨b1, 0, none⟩ = some (.int .i64 a)) :
    Calls Tryd.prog 55 (#[.agg #[.int .i64 ba, .int .i64 bo, .int .i64 bt]] ++ #[.pointer (some ⟨b1, 0, none⟩)]) W fun e W' => e = .returned (.bool (decide (a < ba))) ∧ Below W.heap.size W W' := by
  have hb0 := below_box W (.cells #[.int .i64 ba, .int .i64 bo, .int .i64 bt] 42)
  have d1 := keep c1 hb0
  clear c1
  go_enter Tryd.func55, Tryd.ntmps55
  go_wp2
  go_ret
  exact ⟨rfl, hb0⟩
theorem putF2_call (args : Array Value) (W : World) : (callFunc 55 args).run Tryd.prog W = .ok (.enter 55 args) W := by kernel_rfl

/-- The place of a new block. -/
theorem addB_at {l : List Bk} {b : Bk} {i : Nat} (hi : i ≤ l.length) (h1 : ∀ j, j < i → ¬ b.a < (l.getD j .zero).a) (h2 : i < l.length → b.a < (l.getD i .zero).a) : addB l b = insB l i b := by
  induction l generalizing i with
  | nil => obtain rfl : i = 0 := by simpa using hi
           rfl
  | cons x l ih =>
    cases i with
    | zero =>
      have : x.a > b.a := by have := h2 (by simp); simpa using this
      unfold addB
      rw [if_pos this]
      rfl
    | succ i =>
      have : ¬ x.a > b.a := by have := h1 0 (by omega); simpa using this
      unfold addB
      rw [if_neg this, ih (by simpa using hi) (fun j hj => by have := h1 (j + 1) (by omega); simpa using this) (fun hh => by have := h2 (by simpa using hh); simpa using this)]
      rfl

end Go.Proofs.YtpfafhgllabhbaaDoor

/-
  OWN TEXT. A region that draws its order and whose last operation waits for all others: the others in whatever order, then the last one; over whatever program.
-/
namespace Go.Proofs.YtpfafhgllabhbaaDoor.Kit
open Go Go.RowKit

/-- What is to hold ahead of the last operation. -/
def lastQ (P : Program) (o : Oper) (Q : Exit → Act → World → Prop) : Exit → Act → World → Prop
  | .normal, a, w => o.wp P a w (fun a' w' => Q .normal a' w') Q
  | .exit id, a, w => Q (.exit id) a w
  | .goto l, a, w => Q (.goto l) a w
  | .ret, a, w => Q .ret a w
  | .panic c, a, w => Q (.panic c) a w
  | .outgrown, a, w => Q .outgrown a w

theorem upon_last {P : Program} {o' o : Oper} {a : Act} {K : Act → World → Prop} {Q : Exit → Act → World → Prop} {r : Result Next} (h : o'.upon P a K (lastQ P o Q) r) : o'.upon P a K Q r := by
  cases r with
  | ok n w' =>
    cases n with
    | value v => exact h
    | skip => exact h
    | defer d => exact h
    | enter f args =>
      refine Calls.mono h ?_
      intro e w'' he
      cases e with
      | returned v => exact he
      | panicked c => exact he
      | outgrown => exact he
    | row r args => exact h
    | _ => exact h
  | halt k w' =>
    cases k with
    | panic v => exact h
    | _ => exact h

theorem mem_ready {md : Region.Mode} {ops : Array Oper} {l : Array Bool} {i : Nat} : i ∈ Region.ready md ops l ↔ ∃ oi, ops[i]? = some oi ∧ l.getD i true = false ∧ ∀ e ∈ oi.after, Region.binds md e = true → l.getD e.on false = true := by
  unfold Region.ready
  rw [List.mem_filter, List.mem_range]
  constructor
  · rintro ⟨hi, h⟩
    rw [Array.getElem?_eq_getElem hi] at h ⊢
    simp only [Bool.and_eq_true, Bool.not_eq_true', Option.map_some, Option.getD_some] at h
    refine ⟨_, rfl, h.1, fun e he hb => ?_⟩
    have := (Array.all_eq_true'.1 h.2) e he
    simpa [hb] using this
  · rintro ⟨oi, h1, h2, h3⟩
    have hi := (Array.getElem?_eq_some_iff.1 h1).1
    refine ⟨hi, ?_⟩
    rw [h1, h2]
    simp only [Bool.not_false, Bool.true_and, Option.map_some, Option.getD_some]
    refine Array.all_eq_true'.2 fun e he => ?_
    cases hb : Region.binds md e with
    | false => rfl
    | true => simpa [hb] using h3 e he hb

/-- Every operation but the last one waits for earlier ones alone, the last one for all; no guards. -/
def peelB (md : Region.Mode) (L : List Oper) (n : Nat) : Bool :=
  (L.length == n + 1) && ((List.range n).all fun i => ((L[i]?).map fun o => o.guard.isNone && o.after.all fun e => !Region.binds md e || decide (e.on < i)).getD false) &&
    (((L[n]?).map fun o => o.guard.isNone && (o.after.all fun e => !Region.binds md e || decide (e.on < n)) && (List.range n).all fun i => (o.after.any fun e => Region.binds md e && e.on == i) || ((List.range n).any fun j => decide (i < j) && ((L[j]?).map fun oj => oj.after.any fun e => Region.binds md e && e.on == i).getD false)).getD false)

section
variable {P : Program} {md : Region.Mode} {L : List Oper} {n : Nat} {o : Oper} {Q : Exit → Act → World → Prop}
theorem peel_spec (h : peelB md L n = true) : L.length = n + 1 ∧ (∀ i oi, i < n → L[i]? = some oi → oi.guard = none ∧ ∀ e ∈ oi.after, Region.binds md e = true → e.on < i) ∧ (∀ o, L[n]? = some o → o.guard = none ∧ (∀ e ∈ o.after, Region.binds md e = true → e.on < n) ∧ ∀ i, i < n → (∃ e ∈ o.after, Region.binds md e = true ∧ e.on = i) ∨ ∃ j oj, i < j ∧ j < n ∧ L[j]? = some oj ∧ ∃ e ∈ oj.after, Region.binds md e = true ∧ e.on = i) := by
  unfold peelB at h
  simp only [Bool.and_eq_true, beq_iff_eq] at h
  obtain ⟨⟨h1, h2⟩, h3⟩ := h
  refine ⟨h1, fun i oi hi ho => ?_, fun o ho => ?_⟩
  · have := List.all_eq_true.1 h2 i (List.mem_range.2 hi)
    rw [ho] at this
    simp only [Option.map_some, Option.getD_some, Bool.and_eq_true, Option.isNone_iff_eq_none] at this
    exact ⟨this.1, fun e he hb => by have h := Array.all_eq_true'.1 this.2 e he; simpa [hb] using h⟩
  · rw [ho] at h3
    simp only [Option.map_some, Option.getD_some, Bool.and_eq_true, Option.isNone_iff_eq_none] at h3
    refine ⟨h3.1.1, fun e he hb => by have h := Array.all_eq_true'.1 h3.1.2 e he; simpa [hb] using h, fun i hi => ?_⟩
    have := List.all_eq_true.1 h3.2 i (List.mem_range.2 hi)
    rcases Bool.or_eq_true _ _ ▸ this with this | this
    · obtain ⟨e, he, hb⟩ := Array.any_eq_true'.1 this
      simp only [Bool.and_eq_true, beq_iff_eq] at hb
      exact .inl ⟨e, he, hb.1, hb.2⟩
    · obtain ⟨j, hj, hb⟩ := List.any_eq_true.1 this
      simp only [Bool.and_eq_true, decide_eq_true_eq] at hb
      cases hq : L[j]? with
      | none => rw [hq] at hb; exact absurd hb.2 (by simp)
      | some oj =>
        rw [hq] at hb
        obtain ⟨e, he, hc⟩ := Array.any_eq_true'.1 hb.2
        simp only [Bool.and_eq_true, beq_iff_eq] at hc
        exact .inr ⟨j, oj, hb.1, List.mem_range.1 hj, hq, e, he, hc.1, hc.2⟩

theorem getD_push_lt {l : Array Bool} {b : Bool} {i : Nat} (h : i < l.size) (d : Bool) : (l.push b).getD i d = l.getD i d := by
  simp [Array.getD_eq_getD_getElem?, Array.getElem?_push, Nat.ne_of_lt h]
theorem getD_push_eq {l : Array Bool} {b : Bool} (d : Bool) : (l.push b).getD l.size d = b := by
  simp [Array.getD_eq_getD_getElem?]

theorem ready_lt (hp : peelB md L n = true) {l : Array Bool} (hl : l.size = n) {b : Bool} {i : Nat} (hi : i < n) : i ∈ Region.ready md L.toArray (l.push b) ↔ i ∈ Region.ready md (L.take n).toArray l := by
  obtain ⟨h1, h2, _⟩ := peel_spec hp
  rw [mem_ready, mem_ready]
  have e1 : (L.take n).toArray[i]? = L.toArray[i]? := by simp [hi]
  rw [e1, getD_push_lt (by omega)]
  constructor
  · rintro ⟨oi, g1, g2, g3⟩
    refine ⟨oi, g1, g2, fun e he hb => ?_⟩
    have := g3 e he hb
    rwa [getD_push_lt (by have := (h2 i oi hi (by simpa using g1)).2 e he hb; omega)] at this
  · rintro ⟨oi, g1, g2, g3⟩
    refine ⟨oi, g1, g2, fun e he hb => ?_⟩
    rw [getD_push_lt (by have := (h2 i oi hi (by simpa using g1)).2 e he hb; omega)]
    exact g3 e he hb

theorem all_of_empty (hp : peelB md L n = true) {l : Array Bool} (hl : l.size = n) (hr : Region.ready md (L.take n).toArray l = []) : ∀ i, i < n → l.getD i false = true := by
  obtain ⟨h1, h2, _⟩ := peel_spec hp
  intro i
  induction i using Nat.strongRecOn with
  | _ i ih =>
    intro hi
    cases hg : l.getD i false with
    | true => rfl
    | false =>
      exfalso
      have hlt : i < L.length := by omega
      have hm : i ∈ Region.ready md (L.take n).toArray l := by
        rw [mem_ready]
        refine ⟨L[i], by simp [hi], ?_, fun e he hb => ?_⟩
        · simp only [Array.getD_eq_getD_getElem?, Array.getElem?_eq_getElem (show i < l.size by omega), Option.getD_some] at hg ⊢
          exact hg
        · have := (h2 i L[i] hi (by simp)).2 e he hb
          exact ih e.on this (by omega)
      rw [hr] at hm
      cases hm

theorem n_ready (hp : peelB md L n = true) {l : Array Bool} (hl : l.size = n) (ho : L[n]? = some o) (hr : Region.ready md (L.take n).toArray l = []) : n ∈ Region.ready md L.toArray (l.push false) := by
  have hall := all_of_empty hp hl hr
  obtain ⟨h1, h2, h3⟩ := peel_spec hp
  rw [mem_ready]
  refine ⟨o, by simpa using ho, by rw [← hl]; exact getD_push_eq _, fun e he hb => ?_⟩
  have := (h3 o ho).2.1 e he hb
  rw [getD_push_lt (by omega)]
  exact hall e.on this

/-- What is listed has what it waits for listed. -/
def Closed (md : Region.Mode) (L : List Oper) (n : Nat) (l : Array Bool) : Prop :=
  ∀ j oj, j < n → L[j]? = some oj → l.getD j false = true → ∀ e ∈ oj.after, Region.binds md e = true → l.getD e.on false = true

theorem getD_set {l : Array Bool} {i j : Nat} (h : l.getD j false = true) : (l.setIfInBounds i true).getD j false = true := by
  simp only [Array.getD_eq_getD_getElem?, Array.getElem?_setIfInBounds] at h ⊢
  by_cases e : i = j
  · subst e
    by_cases g : i < l.size
    · simp [g]
    · rw [Array.getElem?_eq_none (by omega)] at h; cases h
  · simpa [e] using h
theorem Closed.set {l : Array Bool} (h : Closed md L n l) {i : Nat} (hi : i ∈ Region.ready md (L.take n).toArray l) : Closed md L n (l.setIfInBounds i true) := by
  intro j oj hj ho hg e he hb
  by_cases q : i = j
  · subst q
    obtain ⟨oi, k1, _, k3⟩ := mem_ready.1 hi
    have e1 : L[i]? = some oi := by simpa [hj] using k1
    rw [e1] at ho
    cases ho
    exact getD_set (k3 e he hb)
  · have hg' : l.getD j false = true := by
      simp only [Array.getD_eq_getD_getElem?, Array.getElem?_setIfInBounds] at hg ⊢
      simpa [q] using hg
    exact getD_set (h j oj hj ho hg' e he hb)

theorem n_only (hp : peelB md L n = true) {l : Array Bool} (hl : l.size = n) (hc : Closed md L n l) (h : n ∈ Region.ready md L.toArray (l.push false)) : Region.ready md (L.take n).toArray l = [] := by
  obtain ⟨h1, h2, h3⟩ := peel_spec hp
  obtain ⟨o, ho, _, g⟩ := mem_ready.1 h
  have hall : ∀ d i, i < n → n - i = d → l.getD i false = true := by
    intro d
    induction d using Nat.strongRecOn with
    | _ d ih =>
      intro i hi hd
      rcases (h3 o (by simpa using ho)).2.2 i hi with ⟨e, he, hb, rfl⟩ | ⟨j, oj, hij, hj, hoj, e, he, hb, rfl⟩
      · have := g e he hb
        rwa [getD_push_lt (by omega)] at this
      · exact hc j oj hj hoj (ih (n - j) (by omega) j hj rfl) e he hb
  rw [List.eq_nil_iff_forall_not_mem]
  intro i hi
  obtain ⟨oi, k1, k2, _⟩ := mem_ready.1 hi
  have hin : i < n := by have := (Array.getElem?_eq_some_iff.1 k1).1; simp at this; omega
  have := hall _ i hin rfl
  simp only [Array.getD_eq_getD_getElem?, Array.getElem?_eq_getElem (show i < l.size by omega), Option.getD_some] at this k2
  rw [k2] at this
  cases this

theorem done_ready (hp : peelB md L n = true) {l : Array Bool} (hl : l.size = n) (hr : Region.ready md (L.take n).toArray l = []) : Region.ready md L.toArray (l.push true) = [] := by
  obtain ⟨h1, h2, h3⟩ := peel_spec hp
  rw [List.eq_nil_iff_forall_not_mem]
  intro i hi
  obtain ⟨oi, k1, k2, _⟩ := mem_ready.1 hi
  have hin : i < n + 1 := by have := (Array.getElem?_eq_some_iff.1 k1).1; simp at this; omega
  by_cases e : i = n
  · rw [e, ← hl, getD_push_eq] at k2
    cases k2
  · have := (ready_lt hp hl (show i < n by omega)).1 hi
    rw [hr] at this
    cases this

theorem wpOp_last (hp : peelB md L n = true) {i : Nat} (hi : i < n) {K : Act → World → Prop} {a : Act} {w : World} (h : wpOp P (L.take n).toArray (lastQ P o Q) i K a w) : wpOp P L.toArray Q i K a w := by
  obtain ⟨h1, h2, _⟩ := peel_spec hp
  have e1 : (L.take n).toArray[i]? = L.toArray[i]? := by simp [hi]
  have hlt : i < L.length := by omega
  have ho : L.toArray[i]? = some L[i] := by simp
  unfold wpOp at h ⊢
  rw [e1, ho] at h
  rw [ho]
  have hg := (h2 i L[i] hi (by simp)).1
  have hw : ∀ y, Region.wanted L[i] y = true := fun y => by simp [Region.wanted, hg]
  simp only [hw, if_true] at h ⊢
  rcases h with h | ⟨h, g⟩
  · exact .inl (upon_last h)
  · exact .inr ⟨h, g⟩

theorem wpAny_peel (hp : peelB md L n = true) (ho : L[n]? = some o) : ∀ (fuel : Nat) (l : Array Bool) (a : Act) (w : World), l.size = n → Closed md L n l → wpAny P md (L.take n).toArray (lastQ P o Q) fuel l a w → wpAny P md L.toArray Q (fuel + 1) (l.push false) a w := by
  have hg := (((peel_spec hp).2.2) o ho).1
  have hw : ∀ y, Region.wanted o y = true := fun y => by simp [Region.wanted, hg]
  have hnm : ∀ (l : Array Bool), l.size = n → Region.ready md L.toArray (l.push false) ≠ [] := by
    intro l hl he
    cases hr : Region.ready md (L.take n).toArray l with
    | nil => have := n_ready hp hl ho hr; rw [he] at this; cases this
    | cons i r =>
      have hm : i ∈ Region.ready md (L.take n).toArray l := by rw [hr]; exact List.mem_cons_self
      have hin : i < n := by
        obtain ⟨_, k1, _⟩ := mem_ready.1 hm
        have := (Array.getElem?_eq_some_iff.1 k1).1
        simp at this
        omega
      have := (ready_lt hp hl (b := false) hin).2 hm
      rw [he] at this
      cases this
  have hlast : ∀ (f : Nat) (l : Array Bool) (a : Act) (w : World), l.size = n → Region.ready md (L.take n).toArray l = [] → lastQ P o Q .normal a w → wpOp P L.toArray Q n (wpAny P md L.toArray Q f ((l.push false).setIfInBounds n true)) a w := by
    intro f l a w hl hr hq
    have hs : (l.push false).setIfInBounds n true = l.push true := by
      subst hl
      apply Array.ext_getElem?
      intro j
      simp only [Array.getElem?_setIfInBounds, Array.getElem?_push]
      by_cases e : l.size = j
      · subst e; simp
      · simp [e, Ne.symm e]
    rw [hs]
    unfold wpOp
    have ho' : L.toArray[n]? = some o := by simpa using ho
    rw [ho']
    simp only [hw, if_true]
    refine .inl (Oper.wp_mono (fun a' w' h => ?_) hq)
    have hd := done_ready hp hl hr
    cases f with
    | zero => exact ⟨hd, h⟩
    | succ f => exact ⟨fun _ => h, by rw [hd]; simp⟩
  intro fuel
  induction fuel with
  | zero =>
    rintro l a w hl _ ⟨hr, hq⟩
    refine ⟨fun h => absurd h (hnm l hl), fun i hi => ?_⟩
    have hin : i = n := by
      obtain ⟨_, k1, _⟩ := mem_ready.1 hi
      have h1 := (peel_spec hp).1
      have := (Array.getElem?_eq_some_iff.1 k1).1
      simp at this
      by_cases e : i = n
      · exact e
      · have := (ready_lt hp hl (b := false) (show i < n by omega)).1 hi
        rw [hr] at this
        cases this
    subst hin
    exact hlast 0 l a w hl hr hq
  | succ f ih =>
    rintro l a w hl hc ⟨hq, hs⟩
    refine ⟨fun h => absurd h (hnm l hl), fun i hi => ?_⟩
    by_cases e : i = n
    · subst e
      have hr := n_only hp hl hc hi
      exact hlast (f + 1) l a w hl hr (hq hr)
    · have hin : i < n := by
        obtain ⟨_, k1, _⟩ := mem_ready.1 hi
        have h1 := (peel_spec hp).1
        have := (Array.getElem?_eq_some_iff.1 k1).1
        simp at this
        omega
      have hm := (ready_lt hp hl (b := false) hin).1 hi
      refine wpOp_last hp hin (wpOp_mono (fun a' w' h => ?_) (hs i hm))
      have := ih (l.setIfInBounds i true) a' w' (by simpa using hl) (hc.set hm) h
      have e2 : (l.setIfInBounds i true).push false = (l.push false).setIfInBounds i true := by
        apply Array.ext_getElem?
        intro j
        simp only [Array.getElem?_setIfInBounds, Array.getElem?_push, Array.size_setIfInBounds]
        by_cases e1 : i = j
        · subst e1
          have g1 : ¬ (i = n) := by omega
          have g2 : i < n + 1 := by omega
          simp [hl, hin, g1, g2]
        · simp [e1]
      rw [e2] at this
      exact this

/-- The others by one condition on the world, then the last. -/
theorem wp_region_peel {id : Nat} {a : Act} {w : World} {S : World → Prop} (n : Nat) (o : Oper) (hm : P.follows .mixedOrders = true) (hp : peelB .any L n = true) (ho : L[n]? = some o)
    (h : wpAnyH P .any (L.take n).toArray (lastQ P o Q) S n (Array.replicate n false) a { w with drawn := w.drawn + 1 }) : (Code.region id L.toArray true).wp P Q a w := by
  refine wp_region_any hm ?_
  have h1 := (peel_spec hp).1
  have := wpAny_peel hp ho n (Array.replicate n false) a { w with drawn := w.drawn + 1 } (by simp) (fun j oj hj _ hg => by simp [Array.getD_eq_getD_getElem?, hj] at hg) (wpAny_of_held _ _ _ _ h)
  have e : (Array.replicate n false).push false = Array.replicate L.toArray.size false := by
    rw [List.size_toArray, h1, Array.replicate_succ]
  rw [e] at this
  rw [List.size_toArray, h1]
  rw [List.size_toArray, h1] at this
  exact this

theorem takeH {S : World → Prop} {l : List Oper} (i : Nat) {oi : Oper} {v : Value} {fuel : Nat} {listed : Array Bool} {a : Act} {w : World} (hi : l[i]? = some oi)
    (hs : Region.noSelect l.toArray = true) (hf : Region.free md l.toArray listed i = true) (hr : (Region.ready md l.toArray listed).contains i = true)
    (hQ : ∀ c a w, Q (.panic c) (a.put oi.dst v) w → Q (.panic c) a w) (hg : oi.guard = none) (hy : ∀ w, S w → (execOp a.eval oi).run P w = .ok (.value v) w) (hS : S w)
    (h : wpAnyH P md l.toArray Q S fuel (listed.setIfInBounds i true) (a.put oi.dst v) w) : wpAnyH P md l.toArray Q S (fuel + 1) listed a w :=
  wpAnyH_take (by simpa using hi) hs hf hr hQ (Or.inl ⟨by simp [Region.wanted, hg], hy⟩) hS h

theorem oneH {S : World → Prop} {l : List Oper} (i : Nat) {oi : Oper} {fuel : Nat} {listed : Array Bool} {a : Act} {w : World} (hr : Region.ready md l.toArray listed = [i]) (hi : l[i]? = some oi) (hg : oi.guard = none)
    (h : ∀ K : Act → World → Prop, (∀ a' w', S w' → wpAnyH P md l.toArray Q S fuel (listed.setIfInBounds i true) a' w' → K a' w') → oi.wp P a w K Q) : wpAnyH P md l.toArray Q S (fuel + 1) listed a w := by
  refine wpAnyH_all hr (by simp) ?_
  intro j hj
  obtain rfl : j = i := by simpa using hj
  unfold wpOp
  have hi' : l.toArray[j]? = some oi := by simpa using hi
  rw [hi']
  have hw : ∀ y, Region.wanted oi y = true := fun y => by simp [Region.wanted, hg]
  simp only [hw, if_true]
  exact .inl (h _ fun a' w' h1 h2 => ⟨h1, h2⟩)

end
end Go.Proofs.YtpfafhgllabhbaaDoor.Kit
