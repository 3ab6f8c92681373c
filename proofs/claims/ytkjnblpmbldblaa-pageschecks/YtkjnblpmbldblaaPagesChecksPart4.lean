/-
  OWN TEXTS, bundled: AppK2, AppK4, RefHa, RefZn, RefZa, RefZm.
-/
import Derived.Test.YtkjnblpmbldblaaPagesChecksPart3
import Derived.Test.YtkjnblpmbldblaaPagesChecksPart2
import Derived.Lib.AppendZeros

/-
  OWN TEXT. Rows that grow, and what two copies leave; over whatever program.
-/
namespace Go.Proofs.Ytkjnblpmbldblaa.Kit
open Go Go.RowKit

theorem row_new {w : World} {e : TypeId} {size cap : Nat} {A : Array Value} (hs : A.size = cap * size) (hm : cap ≤ maxLen) : Row (w.drew.alloc (.cells A e)) e size w.heap.size cap A.toList := by
  refine ⟨?_, by simpa using hs, hm⟩
  have := heap_alloc_new w.drew (.cells A e)
  simpa using this
theorem below_new (w : World) (o : Obj) : Below w.heap.size w (w.drew.alloc o) := ((Below.refl _ _).drew).alloc (Nat.le_refl _) o

theorem grow_some {P : Program} (w : World) (t ty e : TypeId) (i : TypeInfo) (z : Value) (size : Nat) (ht : P.underlying t = some (.slice e)) (hi : P.info? e = some i) (hz : i.zero = some z) (hsz : i.size = size) (hzs : z.cells.size = size)
    (b : Addr) (sLen sCap : Nat) (olds : List Value) (hlo : olds.length = sLen * size) (holds : ∀ j v, olds[j]? = some v → w.cell? (b.add j) = some v)
    (a : Addr) (n c : Nat) (news : List Value) (hl : news.length = n * size) (hnews : ∀ j v, news[j]? = some v → w.cell? (a.add j) = some v)
    (hg : sCap < sLen + n) (hm : sLen + n ≤ maxLen) (hby : (sLen + n) * i.bytes ≤ 140737488355328) :
    ∃ cap' W cur, (Builtin.append_ #[t, t] ty #[.slice (some b) sLen sCap, .slice (some a) n c]).run P w = .ok (.slice (some ⟨w.heap.size, 0, none⟩) (sLen + n) cap') W ∧
      Row W e size w.heap.size cap' cur ∧ cur.take ((sLen + n) * size) = olds ++ news ∧ sLen + n ≤ cap' ∧ Below w.heap.size w W := by
  subst hsz
  have h63 : ((sLen + n : Nat) : Int) ≤ 9223372036854775807 := by simp only [maxLen] at hm; omega
  have hr := run_append_grow (P := P) w t ty e i z ht hi hz b sLen sCap olds hlo holds a n c news hl hnews hg h63 (growslice_fits hg hby)
  have hc1 := grownCap_ge w (sLen + n) sCap e
  have hc2 := grownCap_le_maxLen w (sLen + n) sCap e hm
  refine ⟨_, _, _, hr, row_new ?_ hc2, ?_, hc1, below_new _ _⟩
  · simp only [Array.size_append, List.size_toArray, size_zeroCells, hlo, hl, hzs]
    rw [← Nat.add_mul, ← Nat.add_mul]
    congr 1
    omega
  · simp only [Array.toList_append]
    rw [List.take_append_of_le_length (by simp [hlo, hl, Nat.add_mul]), List.take_of_length_le (by simp [hlo, hl, Nat.add_mul])]

theorem grow_zeros {P : Program} (w : World) (t tn ty e : TypeId) (i : TypeInfo) (z : Value) (size : Nat) (kq kn : IntKind) (ht : P.underlying t = some (.slice e)) (htn : P.underlying tn = some (.int kn)) (hi : P.info? e = some i) (hz : i.zero = some z) (hsz : i.size = size) (hs0 : 0 < size) (hzs : z.cells.size = size)
    (b : Addr) (sLen sCap : Nat) (olds : List Value) (hlo : olds.length = sLen * size) (holds : ∀ j v, olds[j]? = some v → w.cell? (b.add j) = some v)
    (k : Nat) (h0 : 0 < k) (hg : sCap < sLen + k) (hm : sLen + k ≤ maxLen) (hby : (sLen + k) * i.bytes ≤ 140737488355328) :
    ∃ cap' W cur, (Builtin.append_ #[t, tn] ty #[.slice (some b) sLen sCap, .int kq k]).run P w = .ok (.slice (some ⟨w.heap.size, 0, none⟩) (sLen + k) cap') W ∧
      Row W e size w.heap.size cap' cur ∧ cur.take (sLen * size) = olds ∧ sLen + k ≤ cap' ∧ Below w.heap.size w W := by
  subst hsz
  have h63 : ((sLen + k : Nat) : Int) ≤ 9223372036854775807 := by simp only [maxLen] at hm; omega
  have hold : (Builtin.firstCells i.size sLen (.slice (some b) sLen sCap)).run P w.drew = .ok olds.toArray w.drew :=
    run_firstCells_some w.drew i.size sLen b sLen sCap olds hlo (fun j v hj => by simpa using holds j v hj)
  have h48 : k * i.bytes ≤ 281474976710656 := by have := Nat.mul_le_mul_right i.bytes (show k ≤ sLen + k by omega); omega
  have hr := Go.Lib.run_append_grow_zeros (P := P) w t tn ty e i z kq kn ht htn hi hz (some b) sLen sCap olds hold k h0 hs0 hg h63 h48 (growslice_fits hg hby)
  have hc1 := grownCap_ge w (sLen + k) sCap e
  have hc2 := grownCap_le_maxLen w (sLen + k) sCap e hm
  refine ⟨_, _, _, hr, row_new ?_ hc2, ?_, hc1, below_new _ _⟩
  · simp only [Array.size_append, List.size_toArray, size_zeroCells, hlo, hzs]
    rw [← Nat.add_mul, ← Nat.add_mul]
    congr 1
    omega
  · simp only [Array.toList_append, List.append_assoc]
    rw [List.take_append_of_le_length (by simp [hlo]), List.take_of_length_le (by simp [hlo])]

theorem splice_two_a {α : Type} {L X Y : List α} {p : Nat} (h : p + X.length + Y.length ≤ L.length) : (splice (splice L p X) (p + X.length) Y).take (p + X.length + Y.length) = L.take p ++ (X ++ Y) := by
  have e : (splice L p X).take (p + X.length) = L.take p ++ X := by
    unfold splice
    rw [← List.append_assoc, List.take_append_of_le_length (by simp; omega), List.take_of_length_le (by simp; omega)]
  show (List.take (p + X.length) (splice L p X) ++ (Y ++ _)).take _ = _
  rw [e, ← List.append_assoc, List.take_append_of_le_length (by simp; omega), List.take_of_length_le (by simp; omega), List.append_assoc]

theorem splice_two_b {α : Type} {L X Y : List α} {p : Nat} (h : p + X.length + Y.length ≤ L.length) : (splice (splice L (p + X.length) Y) p X).take (p + X.length + Y.length) = L.take p ++ (X ++ Y) := by
  have e1 : (splice L (p + X.length) Y).take p = L.take p := splice_take (by omega) (by omega)
  have e2 : (splice L (p + X.length) Y).drop (p + X.length) = Y ++ L.drop (p + X.length + Y.length) := by
    unfold splice
    rw [List.drop_append_of_le_length (by simp; omega), List.drop_of_length_le (by simp; omega), List.nil_append]
  show (List.take p (splice L (p + X.length) Y) ++ (X ++ List.drop (p + X.length) (splice L (p + X.length) Y))).take _ = _
  rw [e1, e2, ← List.append_assoc, ← List.append_assoc, List.take_append_of_le_length (by simp; omega), List.take_of_length_le (by simp; omega), List.append_assoc]

end Go.Proofs.Ytkjnblpmbldblaa.Kit

/-
  OWN TEXT. append to a row that the call owns, or to none: where the row is then; over whatever program.
-/
namespace Go.Proofs.Ytkjnblpmbldblaa.Kit
open Go Go.RowKit

theorem append_row {P : Program} (w : World) (base : Nat) (t ty e : TypeId) (i : TypeInfo) (z : Value) (size : Nat) (ht : P.underlying t = some (.slice e)) (hi : P.info? e = some i) (hz : i.zero = some z) (hsz : i.size = size) (hzs : z.cells.size = size)
    (ao : Option Addr) (n cap : Nat) (xs : List Value) (hown : w.ownsRow base e size (.slice ao n cap) n xs) (a : Addr) (m c : Nat) (news : List Value) (hl : news.length = m * size) (hnews : ∀ j v, news[j]? = some v → w.cell? (a.add j) = some v) (h1 : ∀ u ∈ news, u.oneCell' = true)
    (h0 : 0 < m) (hm : n + m ≤ maxLen) (hby : (n + m) * i.bytes ≤ 140737488355328) (hb : base ≤ w.heap.size) :
    ∃ g' cap' W, (Builtin.append_ #[t, t] ty #[.slice ao n cap, .slice (some a) m c]).run P w = .ok (.slice (some ⟨g', 0, none⟩) (n + m) cap') W ∧ W.ownsRow base e size (.slice (some ⟨g', 0, none⟩) (n + m) cap') (n + m) (xs ++ news) ∧
      ((ao = some ⟨g', 0, none⟩ ∧ But g' w W) ∨ (g' = w.heap.size ∧ Below w.heap.size w W)) := by
  have hown' := hown
  rcases hown.2 with ⟨e1, e2⟩ | ⟨g, cap', cur, e1, hbg, hg, hn, hmx, hsc, htk⟩
  · simp only [Value.slice.injEq] at e1
    obtain ⟨rfl, rfl, rfl⟩ := e1
    have hx : xs = [] := List.eq_nil_of_length_eq_zero (by have := hown.1; simpa using this)
    subst hx
    subst hsz
    have hby' : m * i.bytes ≤ 281474976710656 := by simp only [Nat.zero_add] at hby; omega
    have h63 : (m : Int) ≤ 9223372036854775807 := by simp only [maxLen] at hm; omega
    have hr := run_append_nil (P := P) (w := w) t ty e i z ht hi hz a m c news hl hnews h0 h63 hby'
    have hc1 := grownCap_ge w m 0 e
    have hc2 := grownCap_le_maxLen w m 0 e (by omega)
    have R : Row (w.drew.alloc (.cells (news.toArray ++ Builtin.zeroCells z.cells (grownCap w m 0 e - m)) e)) e i.size w.heap.size (grownCap w m 0 e) (news.toArray ++ Builtin.zeroCells z.cells (grownCap w m 0 e - m)).toList := row_new (by
      simp only [Array.size_append, List.size_toArray, size_zeroCells, hl, hzs]
      rw [← Nat.add_mul]
      congr 1
      omega) hc2
    refine ⟨w.heap.size, grownCap w m 0 e, _, by rw [Nat.zero_add]; exact hr, ?_, .inr ⟨rfl, below_new _ _⟩⟩
    rw [Nat.zero_add, List.nil_append]
    refine R.owns hb hc1 ?_
    simp only [Array.toList_append]
    rw [List.take_append_of_le_length (by simp [hl]), List.take_of_length_le (by simp [hl])]
  · simp only [Value.slice.injEq] at e1
    obtain ⟨rfl, _, rfl⟩ := e1
    by_cases hr : n + m ≤ cap
    · obtain ⟨w', hrun, r1, r2⟩ := run_append_fits (P := P) w base t ty e i size ht hi hsz g n cap xs hown' a m c news hl hnews h1 hr
      exact ⟨g, cap, w', hrun, r1, .inl ⟨rfl, r2.os, r2.tape, r2.output, r2.size, fun k hk hne => r2.block k hk (by intro q; exact hne (by simpa using q))⟩⟩
    · obtain ⟨cap', W, cur', hrun, R', ht', hc', hb'⟩ := grow_some (P := P) w t ty e i z size ht hi hz hsz hzs ⟨g, 0, none⟩ n cap xs hown'.1 (hown'.cells rfl) a m c news hl hnews (by omega) hm hby
      exact ⟨w.heap.size, cap', W, hrun, R'.owns hb hc' ht', .inr ⟨rfl, hb'⟩⟩

end Go.Proofs.Ytkjnblpmbldblaa.Kit

/-
  OWN TEXT. Contracts of the document's answer: ahead, and HeapMay's add.
-/
namespace Go.Proofs.Ytkjnblpmbldblaa
open Go Go.RowKit Go.Proofs.Ytkjnblpmbldblaa.Kit

/-- The blocks that were added, in HeapMay's variable. -/
structure AllI (w : World) (ab r : Nat) (P : List Bk) (ao : Option Addr) (cap : Nat) : Prop where
  c : w.cell? ⟨ab, 0, none⟩ = some (.slice ao P.length cap)
  z : w.frozen? ⟨ab, 0, none⟩ = false
  own : w.ownsRow (ab + 1) 63 3 (.slice ao P.length cap) P.length (bvals P)
  r : ∀ a, ao = some a → a.block = r
theorem AllI.lt {w : World} {ab r : Nat} {P : List Bk} {ao : Option Addr} {cap : Nat} (h : AllI w ab r P ao cap) : ab < w.heap.size := by
  have := World.block_lt_of_cell? w _ h.c
  exact this
theorem AllI.below {w w' : World} {ab r : Nat} {P : List Bk} {ao : Option Addr} {cap : Nat} (h : AllI w ab r P ao cap) (hb : Below w.heap.size w w') : AllI w' ab r P ao cap :=
  ⟨keep h.c hb, (hb.frozen (p := ⟨ab, 0, none⟩) h.lt).trans h.z, owns_below h.own hb (Nat.le_refl _), h.r⟩

theorem overlaps_b (w : World) (ao : Option Addr) (n cap : Nat) (l : List Bk) (a o : Int) (r : Bool) (h : Blks w ao n l) (ho : ∀ i, i < l.length → InP (l.getD i .zero)) (hb : ordOk o) (h0 : 0 ≤ a) (h1 : a ≤ 256) (hr : r = true ↔ ovlP l a o) :
    Calls Try.prog 38 #[.slice ao n cap, .int .i64 a, .int .i64 o] w fun e w' => e = .returned (.bool r) ∧ ∃ d, w' = w.drewN d := by
  refine (overlaps_any w ao n cap l a o h (fun i hi => ⟨(ho i hi).1, (ho i hi).2.1, by have := (ho i hi).2.2; have := pw_pos (l.getD i .zero).o; omega⟩) hb h0 h1).mono ?_
  rintro e w' ⟨⟨q, rfl, hq⟩, hd⟩
  refine ⟨?_, hd⟩
  have : q = r := by
    have e : (q = true) ↔ (r = true) := hq.trans hr.symm
    cases q <;> cases r <;> simp_all
  rw [this]

/-- A block is added, or it overlaps one. -/
def AddR (w w' : World) (ab r : Nat) (P : List Bk) (b : Bk) (e : Ending) : Prop :=
  (e = .returned (.bool true) ∧ ¬ ovlP P b.a b.o ∧ ∃ r' ao cap, AllI w' ab r' (P ++ [b]) ao cap ∧ (r' = r ∨ w.heap.size ≤ r') ∧ Bu2 r ab w w') ∨ (e = .returned (.bool false) ∧ ovlP P b.a b.o ∧ Below w.heap.size w w')

set_option maxRecDepth 4000 in
set_option maxHeartbeats 4000000 in
theorem heapMayF_any (w : World) (ab r : Nat) (P : List Bk) (ao : Option Addr) (cap : Nat) (b : Bk) (hA : AllI w ab r P ao cap) (hP : ∀ i, i < P.length → InP (P.getD i .zero)) (hn : P.length ≤ 4096) (hb : InP b) :
    Calls Try.prog 37 #[.agg #[.int .i64 b.a, .int .i64 b.o, .int .i64 b.t], .pointer (some ⟨ab, 0, none⟩)] w fun e w' => AddR w w' ab r P b e := by
  obtain ⟨a, o, t⟩ := b
  obtain ⟨h1, h2, h3⟩ := hb
  dsimp only at h1 h2 h3 ⊢
  have hp := pw_pos o
  have hp16 := pw_le h1
  obtain ⟨i1, hj, hy0, hy1, hy2⟩ := info_parts info_block
  have hbb := below_box w (.cells #[.int .i64 a, .int .i64 o, .int .i64 t] 63)
  have y0 : (w.alloc (.cells #[.int .i64 a, .int .i64 o, .int .i64 t] 63)).cell? ⟨w.heap.size, 0, none⟩ = some (.int .i64 a) := by go_simp
  have y1 : (w.alloc (.cells #[.int .i64 a, .int .i64 o, .int .i64 t] 63)).cell? ⟨w.heap.size, 1, none⟩ = some (.int .i64 o) := by go_simp
  have y2 : (w.alloc (.cells #[.int .i64 a, .int .i64 o, .int .i64 t] 63)).cell? ⟨w.heap.size, 2, none⟩ = some (.int .i64 t) := by go_simp
  have hA0 := hA.below hbb
  obtain ⟨W0, hW0⟩ : ∃ W0, w.alloc (.cells #[.int .i64 a, .int .i64 o, .int .i64 t] 63) = W0 := ⟨_, rfl⟩
  rw [hW0] at hbb y0 y1 y2 hA0
  have HW0 : Hid _ := hW0
  clear hW0
  have c0 := hA0.c
  obtain ⟨PW, hPW⟩ : ∃ PW, pw o = PW := ⟨_, rfl⟩
  have HPW : Hid (pw o = PW) := hPW
  have HPow := fun W => power_v o PW (by unfold ordOk at h1; omega) (by unfold ordOk at h1; omega) hPW W
  rw [hPW] at hp hp16 h3
  have hBk : ∀ d, Blks (W0.drewN d) ao P.length P := fun d => (blks_own hA0.own (by omega)).below (below_drawn d)
  obtain ⟨n, hnn⟩ : ∃ n, P.length = n := ⟨_, rfl⟩
  have hab := hA.lt
  clear hPW
  by_cases hov : ovlP P a o
  · have HO := fun d => overlaps_b (W0.drewN d) ao P.length cap P a o true (hBk d) hP h1 h2 (by omega) ⟨fun _ => hov, fun _ => rfl⟩
    have HV : Hid _ := hov
    clear hBk hov
    rw [hnn] at HO c0
    clear hnn
    go_enter Try.func37, Try.ntmps37
    go_wp2_with (rw [HW0.out])
    go_quiet (first | (go_at_call 38; exact Calls.quiet_of (HO _)) | (go_at_call 39; exact Calls.quiet_of_same (HPow _)))
    go_wp2
    go_ret
    exact .inr ⟨rfl, HV.out, hbb.trans ((below_drawn _).mono hbb.size)⟩
  · have HO := fun d => overlaps_b (W0.drewN d) ao P.length cap P a o false (hBk d) hP h1 h2 (by omega) ⟨fun h => (by cases h), fun h => absurd h hov⟩
    have HV : Hid _ := hov
    have t1 : decide (a < 0) = false := decide_eq_false (by omega)
    have t2 : decide ((256 : Int) < a + PW) = false := decide_eq_false (by omega)
    have w1 : IntKind.i64.wrap (a + PW) = a + PW := IntWalk.i64_in _ (by omega)
    clear hBk hov
    have HNN : Hid _ := hnn
    rw [hnn] at HO c0
    clear hnn
    go_enter Try.func37, Try.ntmps37
    go_wp2_with (rw [HW0.out])
    go_quiet (first | (go_at_call 38; exact Calls.quiet_of (HO _)) | (go_at_call 39; exact Calls.quiet_of_same (HPow _)))
    have hB1 := hbb.trans ((below_drawn nq).mono hbb.size)
    have A1 := hA0.below (below_drawn nq)
    replace y0 := keep y0 (below_drawn nq)
    replace y1 := keep y1 (below_drawn nq)
    replace y2 := keep y2 (below_drawn nq)
    generalize W0.drewN nq = W1 at hB1 A1 y0 y1 y2 ⊢
    clear HO HPow c0 t1 t2 w1 hA0 HW0
    have A2 := A1.below (below_box W1 (.cells #[.int .i64 a, .int .i64 o, .int .i64 t] 63))
    have hs2 : ab + 1 ≤ (W1.alloc (.cells #[.int .i64 a, .int .i64 o, .int .i64 t] 63)).heap.size := by have := A2.lt; omega
    obtain ⟨g', cap', W6, hrun, o6, hc6⟩ := append_row (P := Try.prog) (W1.alloc (.cells #[.int .i64 a, .int .i64 o, .int .i64 t] 63)) (ab + 1) 26 26 63 i1 _ 3 Try.underlying26 hj hy0 hy1 rfl ao P.length cap (bvals P) A2.own ⟨W1.heap.size, 0, none⟩ 1 1 [.int .i64 a, .int .i64 o, .int .i64 t] rfl (cell_three_new _ _ _ _ _) (ints_oneCell .i64 [_, _, _]) (by omega) (by unfold maxLen; omega) (by rw [hy2]; omega) hs2
    have o6' : W6.ownsRow (ab + 1) 63 3 (.slice (some ⟨g', 0, none⟩) (P.length + 1) cap') (P.length + 1) (bvals (P ++ [⟨a, o, t⟩])) := by rw [bvals_append]; exact o6
    have hg6 : ab + 1 ≤ g' := (o6'.lt _ rfl).1
    have hB2 : Below w.heap.size w (W1.alloc (.cells #[.int .i64 a, .int .i64 o, .int .i64 t] 63)) := hB1.trans ((below_box _ _).mono hB1.size)
    have hU : Bu2 r ab w W6 ∧ (g' = r ∨ w.heap.size ≤ g') := by
      rcases hc6 with ⟨e, hbt⟩ | ⟨e, hbl⟩
      · have : g' = r := A2.r _ e
        subst this
        exact ⟨(Bu2.of_below hB2).trans (Bu2.of_but_g hbt), .inl rfl⟩
      · exact ⟨(Bu2.of_below hB2).trans (Bu2.of_below hbl), .inr (by have := hB2.size; omega)⟩
    have hcell : (∃ v, W6.cell? ⟨ab, 0, none⟩ = some v) ∧ W6.frozen? ⟨ab, 0, none⟩ = false := by
      rcases hc6 with ⟨e, hbt⟩ | ⟨e, hbl⟩
      · exact ⟨⟨_, hbt.cell A2.c (by omega)⟩, (World.frozen?_of_block (a := ⟨ab, 0, none⟩) (hbt.block ab A2.lt (by omega))).trans A2.z⟩
      · exact ⟨⟨_, keep A2.c hbl⟩, (hbl.frozen (p := ⟨ab, 0, none⟩) A2.lt).trans A2.z⟩
    obtain ⟨⟨v6, c6⟩, z6⟩ := hcell
    have hfin : AddR w (W6.setCell ⟨ab, 0, none⟩ (.slice (some ⟨g', 0, none⟩) (P.length + 1) cap')) ab r P ⟨a, o, t⟩ (.returned (.bool true)) := by
      have hbs : But ab W6 (W6.setCell ⟨ab, 0, none⟩ (.slice (some ⟨g', 0, none⟩) (P.length + 1) cap')) := (But.refl ab W6).setCell (o := 0) _
      have hl : (P ++ [(⟨a, o, t⟩ : Bk)]).length = P.length + 1 := by simp
      refine .inl ⟨rfl, HV.out, g', some ⟨g', 0, none⟩, cap', ⟨?_, by simpa using z6, ?_, fun a ha => by cases ha; rfl⟩, hU.2, hU.1.trans (Bu2.of_but_z hbs)⟩
      · rw [hl]; exact World.cell?_setCell_same _ _ _ c6
      · rw [hl]; exact own_but o6' hbs (by omega)
    have HF : Hid (∀ e, e = .returned (.bool true) → AddR w (W6.setCell ⟨ab, 0, none⟩ (.slice (some ⟨g', 0, none⟩) (P.length + 1) cap')) ab r P ⟨a, o, t⟩ e) := fun e he => he ▸ hfin
    have HR : Hid _ := hrun
    have c1 := A1.c
    rw [HNN.out] at c1 HR HF
    clear hfin hrun hc6 o6 o6' hU A2 A1 hB2
    go_wp2_with (at_builtin; refine Lib.wpList_append_run _ rfl (.tmp 24) (.tmp 26) 26 26 rfl _ _ rfl rfl _ _ HR.out ?_)
    go_ret
    exact HF.out _ rfl

set_option maxHeartbeats 2000000 in
theorem ahead_b (w : World) (a b : Ls) (po po' : Value) (r : Bool) (hr : r = true ↔ aheadL a b) :
    Calls Try.prog 40 #[.agg #[.int .i64 a.c, .int .i64 a.z, .int .i64 a.t, po], .agg #[.int .i64 b.c, .int .i64 b.z, .int .i64 b.t, po']] w fun e w' => e = .returned (.bool r) ∧ Below w.heap.size w w' := by
  have hb1 := below_box w (.cells #[.int .i64 a.c, .int .i64 a.z, .int .i64 a.t, po] 57)
  have hb2 := below_box (w.alloc (.cells #[.int .i64 a.c, .int .i64 a.z, .int .i64 a.t, po] 57)) (.cells #[.int .i64 b.c, .int .i64 b.z, .int .i64 b.t, po'] 57)
  have hb0 := hb1.trans (hb2.mono hb1.size)
  obtain ⟨ac, az, at', ap⟩ := a
  obtain ⟨bc, bz, bt, bp⟩ := b
  unfold aheadL at hr
  dsimp only at hr hb0 ⊢
  clear hb1 hb2
  rcases (show ac < bc ∨ bc < ac ∨ ac = bc by omega) with h | h | h
  · obtain rfl : r = true := hr.2 (.inl h)
    have q : decide (ac < bc) = true := decide_eq_true h
    clear hr
    go_enter Try.func40, Try.ntmps40
    go_wp2
    go_ret
    exact ⟨rfl, hb0⟩
  · obtain rfl : r = false := by cases r with
      | false => rfl
      | true => have := hr.1 rfl; omega
    have q : decide (ac < bc) = false := decide_eq_false (by omega)
    have q1 : (ac == bc) = false := by simp; omega
    clear hr
    go_enter Try.func40, Try.ntmps40
    go_wp2
    go_ret
    exact ⟨rfl, hb0⟩
  · subst h
    have q : decide (ac < ac) = false := decide_eq_false (by omega)
    have q1 : (ac == ac) = true := by simp
    rcases (show az < bz ∨ bz < az ∨ az = bz by omega) with h | h | h
    · obtain rfl : r = true := hr.2 (.inr ⟨rfl, .inl h⟩)
      have q2 : decide (az < bz) = true := decide_eq_true h
      clear hr
      go_enter Try.func40, Try.ntmps40
      go_wp2
      go_ret
      exact ⟨rfl, hb0⟩
    · obtain rfl : r = false := by cases r with
        | false => rfl
        | true => have := hr.1 rfl; omega
      have q2 : decide (az < bz) = false := decide_eq_false (by omega)
      have q3 : (az == bz) = false := by simp; omega
      clear hr
      go_enter Try.func40, Try.ntmps40
      go_wp2
      go_ret
      exact ⟨rfl, hb0⟩
    · subst h
      have q2 : decide (az < az) = false := decide_eq_false (by omega)
      have q3 : (az == az) = true := by simp
      by_cases h : at' < bt
      · obtain rfl : r = true := hr.2 (.inr ⟨rfl, .inr ⟨rfl, h⟩⟩)
        have q4 : decide (at' < bt) = true := decide_eq_true h
        clear hr
        go_enter Try.func40, Try.ntmps40
        go_wp2
        go_ret
        exact ⟨rfl, hb0⟩
      · obtain rfl : r = false := by cases r with
          | false => rfl
          | true => have := hr.1 rfl; omega
        have q4 : decide (at' < bt) = false := decide_eq_false h
        clear hr
        go_enter Try.func40, Try.ntmps40
        go_wp2
        go_ret
        exact ⟨rfl, hb0⟩

end Go.Proofs.Ytkjnblpmbldblaa

/-
  OWN TEXT. Contracts of the document's answer: ZoneNew.
-/
namespace Go.Proofs.Ytkjnblpmbldblaa
open Go Go.RowKit Go.Proofs.Ytkjnblpmbldblaa.Kit

/-- The empty zone, as cells. -/
theorem newOk_nat {f t : Int} (h : newOk f t) : ∃ F T : Nat, f = F ∧ t = T ∧ F ≤ T ∧ T ≤ 256 ∧ F % 16 = 0 ∧ T % 16 = 0 := by
  obtain ⟨h1, h2, h3, h4, h5⟩ := h
  exact ⟨f.toNat, t.toNat, by omega, by omega, by omega, by omega, by omega, by omega⟩

set_option maxRecDepth 4000 in
set_option maxHeartbeats 2000000 in
theorem zoneNew_nat (w : World) (f t : Nat) (h1 : f ≤ t) (h2 : t ≤ 256) (h3 : f % 16 = 0) (h4 : t % 16 = 0) :
    Calls Try.prog 24 #[.int .i64 f, .int .i64 t] w fun e w' => RetZone w.heap.size w' ⟨f, t, [], List.replicate ((t - f) / 8) 1⟩ e ∧ Below w.heap.size w w' := by
  have e1 : inB f 0 256 = true := inB_t (by omega)
  have e2 : inB t f 256 = true := inB_t (by omega)
  have m1 : (f : Int) % 16 = 0 := by omega
  have m2 : (t : Int) % 16 = 0 := by omega
  obtain ⟨i0, hi, hz0, hz1, hz2⟩ := info_parts info_int
  have hb2 : Below w.heap.size w ((w.alloc (.cells #[.int .i64 0, .int .i64 0, .slice none 0 0, .slice none 0 0] 44)).alloc (.cells #[.int .i64 f, .int .i64 t, .slice none 0 0, .slice none 0 0] 44)) := ((Below.refl _ _).alloc (Nat.le_refl _) _).alloc (by simp) _
  have R0 : Res4 ((w.alloc (.cells #[.int .i64 0, .int .i64 0, .slice none 0 0, .slice none 0 0] 44)).alloc (.cells #[.int .i64 f, .int .i64 t, .slice none 0 0, .slice none 0 0] 44)) w.heap.size := (zbox_new w _ _ _ _ _).res.below (below_box _ _)
  have Z0 : ZBox ((w.alloc (.cells #[.int .i64 0, .int .i64 0, .slice none 0 0, .slice none 0 0] 44)).alloc (.cells #[.int .i64 f, .int .i64 t, .slice none 0 0, .slice none 0 0] 44)) (w.heap.size + 1) (.int .i64 f) (.int .i64 t) (.slice none 0 0) (.slice none 0 0) := by
    have := zbox_new (w.alloc (.cells #[.int .i64 0, .int .i64 0, .slice none 0 0, .slice none 0 0] 44)) (.int .i64 f) (.int .i64 t) (.slice none 0 0) (.slice none 0 0) 44
    simpa using this
  obtain ⟨N, hN⟩ : ∃ N, N = (t - f) / 8 := ⟨_, rfl⟩
  have hN8 : f + 8 * N = t := by omega
  rw [← hN]
  have hs0 : w.heap.size + 2 ≤ ((w.alloc (.cells #[.int .i64 0, .int .i64 0, .slice none 0 0, .slice none 0 0] 44)).alloc (.cells #[.int .i64 f, .int .i64 t, .slice none 0 0, .slice none 0 0] 44)).heap.size := by simp
  clear hN
  obtain ⟨W0, hW0⟩ : ∃ W0, (w.alloc (.cells #[.int .i64 0, .int .i64 0, .slice none 0 0, .slice none 0 0] 44)).alloc (.cells #[.int .i64 f, .int .i64 t, .slice none 0 0, .slice none 0 0] 44) = W0 := ⟨_, rfl⟩
  rw [hW0] at hb2 R0 Z0 hs0
  have HW0 : Hid _ := hW0
  clear hW0
  go_enter Try.func24, Try.ntmps24
  go_wp2_with (go_at_call 25; refine (in_any _ _ _ _).mono ?_; rintro e w' ⟨rfl, rfl⟩)
  rw [HW0.out]
  clear e1 e2 m1 m2 HW0
  go_loopw [7] (fun pv wr => ∃ (k p c : Nat) (bo : Option Addr), p = f + 8 * k ∧ k ≤ N ∧ pv = .int .i64 p ∧ ZBox wr (w.heap.size + 1) (.int .i64 f) (.int .i64 t) (.slice none 0 0) (.slice bo k c) ∧ wr.ownsRow (w.heap.size + 2) 3 1 (.slice bo k c) k (vals (List.replicate k 1)) ∧ Res4 wr w.heap.size ∧ Below w.heap.size w wr ∧ w.heap.size + 2 ≤ wr.heap.size) (fun pv _ => f + 8 * N - (intOf pv).toNat)
  case atStart => exact ⟨0, f, 0, none, by omega, Nat.zero_le _, rfl, Z0, World.ownsRow_nil _ _ _ _, R0, hb2, hs0⟩
  case round =>
    obtain ⟨k, p, c, bo, hp, hk, rfl, Z, hown, R, hb, hs⟩ := hrel
    clear Z0 R0 hb2 hs0
    by_cases hlt : k < N
    · have hpt : (p : Int) < t := by omega
      have hml : k + 1 ≤ maxLen := by unfold maxLen; omega
      have hsz : (k + 1) * 8 ≤ 140737488355328 := by omega
      have c3 := Z.c3
      go_wp2_with (at_builtin; refine wpList_append_own _ rfl (.tmp 38) (.tmp 39) 24 rfl (w.heap.size + 2) 3 i0 (.int .i64 0) 1 8 Try.underlying24 hi hz0 hz1 hz2 rfl (by decide) _ _ _ rfl (hown.alloc _) ⟨wr.heap.size, 0, none⟩ 1 1 [.int .i64 1] rfl rfl ?c1 ?c2 hml hsz ?c5 ?_)
      case c1 => exact cell_one_new' _ _ _
      case c2 => exact ints_oneCell .i64 [_]
      case c5 => simp; omega
      intro v' w3 hown' hgrow _
      have hb3 : Below (w.heap.size + 2) wr w3 := ((Below.refl _ _).alloc hs _).grown hgrow (by simp; omega) (fun g hg => (hown.lt g hg).1)
      have e9 : vals (List.replicate k 1) ++ [Value.int .i64 1] = vals (List.replicate (k + 1) 1) := by rw [List.replicate_succ', vals_append]; rfl
      rw [e9] at hown'
      obtain ⟨bo', c', rfl⟩ := owns_shape hown'
      have Z3 := Z.belowB hb3 (by omega)
      have R3 := R.belowB hb3 (by omega)
      have hB3 := hb.trans (hb3.mono (by omega))
      have hs3 := Nat.le_trans hs hb3.size
      have Z4 := Z3.set3 (.slice bo' (k + 1) c')
      have own4 := ownsRow_setCell_below hown' (a := ⟨w.heap.size + 1, 3, none⟩) (show w.heap.size + 1 < w.heap.size + 2 by omega) (.slice bo' (k + 1) c')
      have hbt : But (w.heap.size + 1) w3 (w3.setCell ⟨w.heap.size + 1, 3, none⟩ (.slice bo' (k + 1) c')) := (But.refl _ _).setCell _
      have R4 := R3.but hbt (by omega)
      have hB4 := hB3.trans (hbt.below (B := w.heap.size) (by omega) (by omega))
      have hs4 := Nat.le_trans hs3 hbt.size
      have c3' := Z3.c3
      have z3' := Z3.z3
      clear Z R hown hb hs hgrow hb3 Z3 R3 hB3 hs3 hown' hbt e9 c3
      go_wp2
      go_roundw
      case rel => exact ⟨k + 1, f + 8 * (k + 1), c', bo', rfl, by omega, by go_num, Z4, own4, R4, hB4, hs4⟩
      case measure => simp [intOf]; omega
    · have hpt : ¬ (p : Int) < t := by omega
      obtain rfl : k = N := by omega
      have c0 := Z.c0
      have c1 := Z.c1
      have c2 := Z.c2
      have c3 := Z.c3
      obtain ⟨⟨x0, d0⟩, ⟨x1, d1⟩, ⟨x2, d2⟩, ⟨x3, d3⟩, z0, z1, z2, z3⟩ := id R
      go_wp2
      obtain ⟨k0, k1, k2, k3⟩ := res4 R (.int .i64 f) (.int .i64 t) (.slice none 0 0) (.slice bo k c)
      have hbt := but4 wr w.heap.size (.int .i64 f) (.int .i64 t) (.slice none 0 0) (.slice bo k c)
      refine bodyPost_ret (v := .tuple #[.agg #[.int .i64 f, .int .i64 t, .slice none 0 0, .slice bo k c], .int .i64 0]) (by simp [results, Try.results24, go_sem, k0, k1, k2, k3]) rfl ⟨⟨none, 0, 0, bo, k, c, rfl, ⟨Blks.nil _, hbt.nums (nums_of_owns hown (by omega)) (fun a ha => by have := owns_fresh hown a ha; omega)⟩, fresh_none _, (owns_fresh hown).mono (by omega)⟩, hb.trans (hbt.below (Nat.le_refl _) hb.size)⟩

theorem zoneNew_ok (w : World) (f t : Int) (h : newOk f t) :
    Calls Try.prog 24 #[.int .i64 f, .int .i64 t] w fun e w' => RetZone w.heap.size w' (newZ f t) e ∧ Below w.heap.size w w' := by
  obtain ⟨F, T, rfl, rfl, h1, h2, h3, h4⟩ := newOk_nat h
  have e : newZ (F : Int) T = ⟨F, T, [], List.replicate ((T - F) / 8) 1⟩ := by
    unfold newZ newTypes
    have : (((T : Int) - F) / 8).toNat = (T - F) / 8 := by omega
    rw [this]
  rw [e]
  exact zoneNew_nat w F T h1 h2 h3 h4

set_option maxRecDepth 4000 in
set_option maxHeartbeats 2000000 in
theorem zoneNew_no (w : World) (f t : Int) (h : ¬ newOk f t) :
    Calls Try.prog 24 #[.int .i64 f, .int .i64 t] w fun e w' => RetNone 1 e ∧ Below w.heap.size w w' := by
  have hb1 := below_box w (.cells #[.int .i64 0, .int .i64 0, .slice none 0 0, .slice none 0 0] 44)
  by_cases h1 : 0 ≤ f ∧ f ≤ 256
  · by_cases h2 : f ≤ t ∧ t ≤ 256
    · obtain ⟨F, rfl⟩ : ∃ F : Nat, f = F := ⟨f.toNat, by omega⟩
      obtain ⟨T, rfl⟩ : ∃ T : Nat, t = T := ⟨t.toNat, by omega⟩
      have e1 : inB (F : Int) 0 256 = true := inB_t h1
      have e2 : inB (T : Int) F 256 = true := inB_t h2
      by_cases h3 : (F : Int) % 16 = 0
      · have h4 : ¬ (T : Int) % 16 = 0 := fun g => h ⟨by omega, by omega, by omega, h3, g⟩
        clear h h1 h2
        go_enter Try.func24, Try.ntmps24
        go_wp2_with (go_at_call 25; refine (in_any _ _ _ _).mono ?_; rintro e w' ⟨rfl, rfl⟩)
        exact bodyPost_ret (v := .tuple #[.agg #[.int .i64 0, .int .i64 0, .slice none 0 0, .slice none 0 0], .int .i64 1]) (by simp [results, Try.results24, go_sem]) rfl ⟨rfl, hb1⟩
      · clear h h1 h2
        go_enter Try.func24, Try.ntmps24
        go_wp2_with (go_at_call 25; refine (in_any _ _ _ _).mono ?_; rintro e w' ⟨rfl, rfl⟩)
        exact bodyPost_ret (v := .tuple #[.agg #[.int .i64 0, .int .i64 0, .slice none 0 0, .slice none 0 0], .int .i64 1]) (by simp [results, Try.results24, go_sem]) rfl ⟨rfl, hb1⟩
    · have e1 : inB f 0 256 = true := inB_t h1
      have e2 : inB t f 256 = false := inB_f h2
      clear h h1 h2
      go_enter Try.func24, Try.ntmps24
      go_wp2_with (go_at_call 25; refine (in_any _ _ _ _).mono ?_; rintro e w' ⟨rfl, rfl⟩)
      exact bodyPost_ret (v := .tuple #[.agg #[.int .i64 0, .int .i64 0, .slice none 0 0, .slice none 0 0], .int .i64 1]) (by simp [results, Try.results24, go_sem]) rfl ⟨rfl, hb1⟩
  · have e1 : inB f 0 256 = false := inB_f h1
    clear h h1
    go_enter Try.func24, Try.ntmps24
    go_wp2_with (go_at_call 25; refine (in_any _ _ _ _).mono ?_; rintro e w' ⟨rfl, rfl⟩)
    exact bodyPost_ret (v := .tuple #[.agg #[.int .i64 0, .int .i64 0, .slice none 0 0, .slice none 0 0], .int .i64 1]) (by simp [results, Try.results24, go_sem]) rfl ⟨rfl, hb1⟩

end Go.Proofs.Ytkjnblpmbldblaa

/-
  OWN TEXT. Contract of the document's answer: blockMay.
-/
namespace Go.Proofs.Ytkjnblpmbldblaa
open Go Go.RowKit Go.Proofs.Ytkjnblpmbldblaa.Kit

set_option maxHeartbeats 2000000 in
theorem blockMay_any (w : World) (f t : Int) (fo to_ : Option Addr) (fn fc tn tc : Nat) (a o : Int) (h : newOk f t) :
    Calls Try.prog 61 #[.agg #[.int .i64 f, .int .i64 t, .slice fo fn fc, .slice to_ tn tc], .int .i64 a, .int .i64 o] w fun e w' => e = .returned (.bool (blkB f t a o)) ∧ Below w.heap.size w w' := by
  obtain ⟨h1, h2, h3, h4, h5⟩ := h
  have hb1 := below_box w (.cells #[.int .i64 f, .int .i64 t, .slice fo fn fc, .slice to_ tn tc] 44)
  by_cases p1 : 0 ≤ o ∧ o ≤ 4
  · have e1 : inB o 0 4 = true := inB_t p1
    by_cases p2 : f ≤ a ∧ a ≤ t - 1
    · have e2 : inB a f (t - 1) = true := inB_t p2
      obtain ⟨A, rfl⟩ : ∃ A : Nat, a = A := ⟨a.toNat, by omega⟩
      obtain ⟨P, hP, hP0⟩ : ∃ P : Nat, pw o = P ∧ 0 < P := ⟨(pw o).toNat, by have := pw_pos o; omega, by have := pw_pos o; omega⟩
      have hP1 : ((P : Int) == 0) = false := by simp; omega
      have HR : Hid (blkB f t (A : Int) o = decide ((A : Int) % P = 0)) := by show _ = _; unfold blkB; rw [e1, e2, hP]; rfl
      have hp16 : P ≤ 16 := by have := pw_le (show ordOk o from p1); omega
      have HP : Hid (pw o = P) := hP
      clear hP
      go_enter Try.func61, Try.ntmps61
      go_wp2_with (go_at_call 25; refine (in_any _ _ _ _).mono ?_; rintro e w' ⟨rfl, rfl⟩)
      go_at_call 39
      refine (power_any _ o p1.1 (by omega)).mono ?_
      rintro e w' ⟨rfl, rfl⟩
      rw [HP.out]
      by_cases d : (A : Int) % (P : Int) = 0
      · have HR2 : Hid (blkB f t (A : Int) o = true) := by show _ = _; rw [HR.out]; exact decide_eq_true d
        clear HR HP
        go_wp2
        go_ret
        exact ⟨ret_bool HR2.out.symm, hb1⟩
      · have HR2 : Hid (blkB f t (A : Int) o = false) := by show _ = _; rw [HR.out]; exact decide_eq_false d
        clear HR HP
        go_wp2
        go_ret
        exact ⟨ret_bool (by rw [HR2.out]; simpa using d), hb1⟩
    · have e2 : inB a f (t - 1) = false := inB_f p2
      have HR : Hid (blkB f t a o = false) := by show _ = _; unfold blkB; rw [e1, e2]; rfl
      go_enter Try.func61, Try.ntmps61
      go_wp2_with (go_at_call 25; refine (in_any _ _ _ _).mono ?_; rintro e w' ⟨rfl, rfl⟩)
      go_ret
      exact ⟨ret_bool HR.out.symm, hb1⟩
  · have e1 : inB o 0 4 = false := inB_f p1
    have HR : Hid (blkB f t a o = false) := by show _ = _; unfold blkB; rw [e1]; rfl
    go_enter Try.func61, Try.ntmps61
    go_wp2_with (go_at_call 25; refine (in_any _ _ _ _).mono ?_; rintro e w' ⟨rfl, rfl⟩)
    go_ret
    exact ⟨ret_bool HR.out.symm, hb1⟩

end Go.Proofs.Ytkjnblpmbldblaa

/-
  OWN TEXT. Contracts of the document's answer: ZoneMay.
-/
namespace Go.Proofs.Ytkjnblpmbldblaa
open Go Go.RowKit Go.Proofs.Ytkjnblpmbldblaa.Kit

/-- The world in the midst of ZoneMay: its argument's box, and what can be read. -/
structure MyInv (w : World) (fo : Option Addr) (fn fc : Nat) (to_ : Option Addr) (tn tc : Nat) (z : Zn) (W : World) : Prop where
  b : Below w.heap.size w W
  box : ZBox W w.heap.size (.int .i64 z.f) (.int .i64 z.t) (.slice fo fn fc) (.slice to_ tn tc)
  zn : ZnAt W fo fn to_ tn z

theorem MyInv.step {w : World} {fo : Option Addr} {fn fc : Nat} {to_ : Option Addr} {tn tc : Nat} {z : Zn} {W W' : World} (h : MyInv w fo fn fc to_ tn tc z W) (hb : Below W.heap.size W W') : MyInv w fo fn fc to_ tn tc z W' :=
  ⟨h.b.trans (hb.mono h.b.size), h.box.below hb, h.zn.below hb⟩

theorem myInv_first (w : World) (fo : Option Addr) (fn fc : Nat) (to_ : Option Addr) (tn tc : Nat) (z : Zn) (h : ZnAt w fo fn to_ tn z) : MyInv w fo fn fc to_ tn tc z (w.alloc (.cells #[.int .i64 z.f, .int .i64 z.t, .slice fo fn fc, .slice to_ tn tc] 44)) :=
  ⟨below_box _ _, zbox_new _ _ _ _ _ _, h.below (below_box _ _)⟩

set_option maxHeartbeats 4000000 in
set_option maxRecDepth 10000 in
theorem zoneMay_any (w : World) (fo : Option Addr) (fn fc : Nat) (to_ : Option Addr) (tn tc : Nat) (z : Zn) (h : ZnAt w fo fn to_ tn z) :
    Calls Try.prog 36 #[.agg #[.int .i64 z.f, .int .i64 z.t, .slice fo fn fc, .slice to_ tn tc]] w fun e w' => RetIff e (ZMay z) ∧ Below w.heap.size w w' := by
  have I0 := myInv_first w fo fn fc to_ tn tc z h
  clear h
  by_cases hn : newOk z.f z.t
  · go_enter Try.func36, Try.ntmps36
    go_wp2_with fail
    go_at_call 24
    refine (zoneNew_ok _ z.f z.t hn).mono ?_
    rintro e w1 ⟨⟨ao, an, ac, bo, bn, bc, rfl, _, _, _⟩, hb1⟩
    have I1 := (I0.step hb1).step (below_box w1 (.cells #[.int .i64 (newZ z.f z.t).f, .int .i64 (newZ z.f z.t).t, .slice ao an ac, .slice bo bn bc] 44))
    clear I0 hb1
    have hbox := I1.box
    have c0 := hbox.c0
    have c1 := hbox.c1
    have c2 := hbox.c2
    have c3 := hbox.c3
    have htl := I1.zn.types.len
    have htr := I1.zn.types.reach
    obtain ⟨h1, h2, h3, h4, h5⟩ := id hn
    by_cases hlen : 8 * (tn : Int) = z.t - z.f
    · go_wp2
      clear hbox c0 c1 c2 c3
      obtain ⟨W2, hW2⟩ : ∃ W2, w1.alloc (.cells #[.int .i64 (newZ z.f z.t).f, .int .i64 (newZ z.f z.t).t, .slice ao an ac, .slice bo bn bc] 44) = W2 := ⟨_, rfl⟩
      rw [hW2] at I1 ⊢
      clear hW2
      go_loopw [5] (fun iv wr => ∃ k : Nat, k ≤ tn ∧ iv = .int .i64 k ∧ Hid (∀ i, i < k → typeOk (z.types.getD i 0)) ∧ MyInv w fo fn fc to_ tn tc z wr) (fun iv _ => tn - (intOf iv).toNat)
      case atStart => exact ⟨0, Nat.zero_le _, rfl, (fun i hi => absurd hi (Nat.not_lt_zero i)), I1⟩
      case round =>
        obtain ⟨k, hk, rfl, hT, I⟩ := hrel
        clear I1
        have c3 := I.box.c3
        by_cases hlt : k < tn
        · obtain ⟨b, o, x, rfl, cx, hX⟩ := I.zn.types.at_.at k (by omega)
          by_cases hx : 0 ≤ x ∧ x ≤ 2
          · have e1 : inB x 0 2 = true := inB_t hx
            have hT' : Hid (∀ i, i < k + 1 → typeOk (z.types.getD i 0)) := fun i hi => by
              by_cases e : i = k
              · rw [e, hX.out]; exact hx
              · exact hT.out i (by omega)
            clear hT hx
            go_wp2_with (go_at_call 25; refine (in_any _ _ _ _).mono ?_; rintro e w' ⟨rfl, rfl⟩)
            go_roundw
            case rel => exact ⟨k + 1, by omega, by go_num, hT', I⟩
            case measure => simp [intOf]; omega
          · have e1 : inB x 0 2 = false := inB_f hx
            have HF : Hid (¬ ZMay z) := fun g => hx (by have := g.ty k (by omega); rw [hX.out] at this; exact this)
            have hbb := I.b
            clear hT hx I
            go_wp2_with (go_at_call 25; refine (in_any _ _ _ _).mono ?_; rintro e w' ⟨rfl, rfl⟩)
            go_ret
            exact ⟨⟨false, rfl, fun g => (by cases g), fun g => absurd g HF.out⟩, hbb⟩
        · have hty : Hid (∀ i, i < z.types.length → typeOk (z.types.getD i 0)) := fun i hi => hT.out i (by omega)
          have c0 := I.box.c0
          have c2 := I.box.c2
          clear hT
          go_wp2
          clear c0 c2 c3
          go_loopw [6, 7] (fun lv iv wr2 => ∃ (k : Nat) (q : Int), k ≤ fn ∧ iv = .int .i64 k ∧ lv = .int .i64 q ∧ Hid (lowOf z.f (z.free.take k) = q) ∧ Hid (FreeOk z.f z.t z.f none (z.free.take k)) ∧ MyInv w fo fn fc to_ tn tc z wr2) (fun _ iv _ => fn - (intOf iv).toNat)
          case atStart => exact ⟨0, z.f, Nat.zero_le _, rfl, rfl, rfl, trivial, I⟩
          case round =>
            obtain ⟨k2, q, hk2, rfl, rfl, hq, hF, I2⟩ := hrel
            clear I
            have hfl := I2.zn.free.len
            have hfr := I2.zn.free.reach
            have c2 := I2.box.c2
            by_cases hlt2 : k2 < fn
            · obtain ⟨bb, bf, x, y, u, rfl, x0, x1, x2, hX⟩ := I2.zn.free.at_.at k2 (by omega)
              have htk := take_getD z.free k2 (by omega) hX.out
              have hbx := below_box wr (.cells #[.int .i64 x, .int .i64 y, .int .i64 u] 63)
              have I3 := I2.step hbx
              have y0 : (wr.alloc (.cells #[.int .i64 x, .int .i64 y, .int .i64 u] 63)).cell? ⟨wr.heap.size, 0, none⟩ = some (.int .i64 x) := by go_simp
              have y1 : (wr.alloc (.cells #[.int .i64 x, .int .i64 y, .int .i64 u] 63)).cell? ⟨wr.heap.size, 1, none⟩ = some (.int .i64 y) := by go_simp
              have y2 : (wr.alloc (.cells #[.int .i64 x, .int .i64 y, .int .i64 u] 63)).cell? ⟨wr.heap.size, 2, none⟩ = some (.int .i64 u) := by go_simp
              have b0 := I3.box.c0
              have b1 := I3.box.c1
              have b2 := I3.box.c2
              have b3 := I3.box.c3
              go_wp2_with fail
              go_at_call 61
              refine (blockMay_any _ z.f z.t _ to_ fn fc tn tc x y hn).mono ?_
              rintro e w4 ⟨rfl, hb4⟩
              have I4 := I3.step hb4
              replace y0 := keep y0 hb4
              replace y1 := keep y1 hb4
              replace y2 := keep y2 hb4
              clear I2 I3 hbx b0 b1 b2 b3 c2 x0 x1 x2 hb4
              have hbb := I4.b
              by_cases hB : blkIn z.f z.t x y
              · have hB2 := (blkB_iff z.f z.t x y).2 hB
                rw [hB2]
                clear hB2
                by_cases hU : 0 ≤ u ∧ u ≤ 2
                · have e1 : inB u 0 2 = true := inB_t hU
                  by_cases hlow : x < q
                  · have HF : Hid (¬ ZMay z) := fun g => by have := (freeOk_at g.free (by omega) hX.out).2.2.1; rw [hq.out] at this; dsimp only at this; omega
                    clear hF hq hX htk hty
                    go_wp2_with (go_at_call 25; refine (in_any _ _ _ _).mono ?_; rintro e w' ⟨rfl, rfl⟩)
                    go_ret
                    exact ⟨⟨false, rfl, fun g => (by cases g), fun g => absurd g HF.out⟩, hbb⟩
                  · obtain ⟨o1, o2, o3, o4⟩ := id hB
                    obtain ⟨o5, o6⟩ := id o1
                    have hp1 := pw_pos y
                    have hp2 := pw_le o1
                    have hq' : Hid (lowOf z.f (z.free.take (k2 + 1)) = x + pw y) := by show _ = _; rw [htk, lowOf_snoc]
                    have hFk : (∀ p, lastOf none (z.free.take k2) = some p → ¬ besideP p ⟨x, y, u⟩) → Hid (FreeOk z.f z.t z.f none (z.free.take (k2 + 1))) := fun g => by
                      show FreeOk _ _ _ _ _
                      rw [htk, freeOk_snoc]
                      exact ⟨hF.out, hB, hU, by rw [hq.out]; dsimp only; omega, g⟩
                    have HFk : Hid _ := hFk
                    clear hFk
                    have c2 := I4.box.c2
                    go_wp2_with (go_at_call 25; refine (in_any _ _ _ _).mono ?_; rintro e w' ⟨rfl, rfl⟩)
                    go_quiet ((go_at_call 39; exact Calls.quiet_of_same (power_q y o5 (by omega) _)))
                    have hbq := below_drawn (w := w4) nq
                    have IE := I4.step hbq
                    replace y0 := keep y0 hbq
                    replace y1 := keep y1 hbq
                    replace y2 := keep y2 hbq
                    obtain ⟨W5, hW5⟩ : ∃ W5, w4.drewN nq = W5 := ⟨_, rfl⟩
                    rw [hW5] at IE y0 y1 y2 ⊢
                    clear hW5 hbq I4 c2 hbb
                    have c2 := IE.box.c2
                    have hbb := IE.b
                    by_cases hk0 : k2 = 0
                    · subst hk0
                      have hF' := HFk.out (fun p hp => by cases hp)
                      clear HFk hF hq htk
                      go_wp2
                      go_quiet (fail)
                      go_wp2
                      go_roundw
                      case rel => exact ⟨0 + 1, x + pw y, by omega, by go_num, by go_num, hq', hF', IE.step (below_drawn _)⟩
                      case measure => simp [intOf]; omega
                    · obtain ⟨j, rfl⟩ : ∃ j, k2 = j + 1 := ⟨k2 - 1, by omega⟩
                      obtain ⟨bb', bf', x', y', u', he, p0, p1, p2, hX'⟩ := IE.zn.free.at_.at j (by omega)
                      cases he
                      have hpv := freeOk_at hF.out (k := j) (by simp; omega) (b := ⟨x', y', u'⟩) (by
                        have := hX'.out
                        rw [List.getD_eq_getElem?_getD, List.getElem?_take, if_pos (by omega), ← List.getD_eq_getElem?_getD]
                        exact this)
                      obtain ⟨⟨v1, v2, v3, v4⟩, _, _, _⟩ := hpv
                      dsimp only at v1 v2 v3 v4
                      have hlast : lastOf none (z.free.take (j + 1)) = some ⟨x', y', u'⟩ := by rw [take_getD z.free j (by omega) hX'.out, lastOf_snoc]
                      obtain ⟨P, HP'⟩ : ∃ P, pw y = P := ⟨_, rfl⟩
                      have HP : Hid (pw y = P) := HP'
                      rw [HP'] at hp1 hp2
                      have hjj : ((j + 1 : Nat) : Int) = (j : Int) + 1 := by simp
                      have hj1 : (j : Int) < fn := by omega
                      have hj2 : j < fn := by omega
                      have t0 : decide ((0 : Int) < (j : Int) + 1) = true := decide_eq_true (by omega)
                      have hno : ¬ besideP ⟨x', y', u'⟩ ⟨x, y, u⟩ → Hid (FreeOk z.f z.t z.f none (z.free.take (j + 1 + 1))) := fun g => HFk.out (fun p hp => by rw [hlast] at hp; cases hp; exact g)
                      have Hno : Hid _ := hno
                      clear hno
                      by_cases q1 : y < 4
                      · obtain ⟨X, rfl⟩ : ∃ X : Nat, x' = X := ⟨x'.toNat, by omega⟩
                        obtain ⟨P2, HP2', hP2p, hP2q⟩ : ∃ P2 : Nat, pw (y + 1) = P2 ∧ 0 < P2 ∧ P2 ≤ 16 := ⟨(pw (y + 1)).toNat, by have := pw_pos (y + 1); omega, by have := pw_pos (y + 1); omega, by have := pw_le (o := y + 1) ⟨by omega, by omega⟩; omega⟩
                        obtain ⟨Y1, hY1⟩ : ∃ Y1, y + 1 = Y1 := ⟨_, rfl⟩
                        have HP2 : Hid (pw Y1 = P2) := by rw [← hY1]; exact HP2'
                        have HY1 : Hid (y + 1 = Y1) := hY1
                        have hP20 : ((P2 : Int) == 0) = false := by simp; omega
                        clear HP2' HP'
                        by_cases q2 : y = y'
                        · subst q2
                          by_cases q3 : (X : Int) + P = x
                          · have q3' : ((X : Int) + P == x) = true := by simpa using q3
                            by_cases q4 : (X : Int) % (P2 : Int) = 0
                            · have q4' : ((X : Int) % (P2 : Int) == 0) = true := by simpa using q4
                              have HF : Hid (¬ ZMay z) := fun g => (freeOk_at g.free (by omega) hX.out).2.2.2 _ hlast ⟨q1, rfl, by dsimp only; rw [HP.out]; exact q3, by dsimp only; rw [HY1.out, HP2.out]; exact q4⟩
                              clear Hno HFk hF hq htk hlast hX hX' hty q3 q4
                              go_wp2
                              go_quiet (first | (go_at_call_of 39 Y1; exact Calls.quiet_of_same (power_v Y1 P2 (by omega) (by omega) HP2.out _)) | (go_at_call_of 39 y; exact Calls.quiet_of_same (power_v y P o5 (by omega) HP.out _)))
                              go_wp2
                              go_ret
                              exact ⟨⟨false, rfl, fun g => (by cases g), fun g => absurd g HF.out⟩, below_drewN hbb _⟩
                            · have q4' : ((X : Int) % (P2 : Int) == 0) = false := by simpa using q4
                              have hF' := Hno.out (fun g => q4 (by have := g.2.2.2; dsimp only at this; rw [HY1.out, HP2.out] at this; exact this))
                              clear Hno HFk hF hq htk hlast hX hX' hty q3 q4
                              go_wp2
                              go_quiet (first | (go_at_call_of 39 Y1; exact Calls.quiet_of_same (power_v Y1 P2 (by omega) (by omega) HP2.out _)) | (go_at_call_of 39 y; exact Calls.quiet_of_same (power_v y P o5 (by omega) HP.out _)))
                              go_wp2
                              go_roundw
                              case rel => exact ⟨(j + 1) + 1, x + pw y, by omega, by go_num, by go_num, hq', hF', IE.step (below_drawn _)⟩
                              case measure => simp [intOf]; omega
                          · have q3' : ((X : Int) + P == x) = false := by simpa using q3
                            have hF' := Hno.out (fun g => q3 (by have := g.2.2.1; dsimp only at this; rw [HP.out] at this; exact this))
                            clear Hno HFk hF hq htk hlast hX hX' hty q3
                            go_wp2
                            go_quiet (first | (go_at_call_of 39 Y1; exact Calls.quiet_of_same (power_v Y1 P2 (by omega) (by omega) HP2.out _)) | (go_at_call_of 39 y; exact Calls.quiet_of_same (power_v y P o5 (by omega) HP.out _)))
                            go_wp2
                            go_roundw
                            case rel => exact ⟨(j + 1) + 1, x + pw y, by omega, by go_num, by go_num, hq', hF', IE.step (below_drawn _)⟩
                            case measure => simp [intOf]; omega
                        · have q2' : (y' == y) = false := by simp; exact fun g => q2 g.symm
                          have hF' := Hno.out (fun g => q2 g.2.1.symm)
                          clear Hno HFk hF hq htk hlast hX hX' hty q2
                          go_wp2
                          go_quiet (first | (go_at_call_of 39 Y1; exact Calls.quiet_of_same (power_v Y1 P2 (by omega) (by omega) HP2.out _)) | (go_at_call_of 39 y; exact Calls.quiet_of_same (power_v y P o5 (by omega) HP.out _)))
                          go_wp2
                          go_roundw
                          case rel => exact ⟨(j + 1) + 1, x + pw y, by omega, by go_num, by go_num, hq', hF', IE.step (below_drawn _)⟩
                          case measure => simp [intOf]; omega
                      · have hF' := Hno.out (fun g => q1 g.1)
                        have q1' : decide (y < 4) = false := decide_eq_false q1
                        clear Hno HFk hF hq htk hlast hX hX' hty
                        go_wp2
                        go_quiet (fail)
                        go_wp2
                        go_roundw
                        case rel => exact ⟨(j + 1) + 1, x + pw y, by omega, by go_num, by go_num, hq', hF', IE.step (below_drawn _)⟩
                        case measure => simp [intOf]; omega
                · have e1 : inB u 0 2 = false := inB_f hU
                  have HF : Hid (¬ ZMay z) := fun g => hU (freeOk_at g.free (by omega) hX.out).2.1
                  clear hF hq hX htk hty
                  go_wp2_with (go_at_call 25; refine (in_any _ _ _ _).mono ?_; rintro e w' ⟨rfl, rfl⟩)
                  go_ret
                  exact ⟨⟨false, rfl, fun g => (by cases g), fun g => absurd g HF.out⟩, hbb⟩
              · have hB2 : blkB z.f z.t x y = false := by
                  cases hb : blkB z.f z.t x y with
                  | false => rfl
                  | true => exact absurd ((blkB_iff z.f z.t x y).1 hb) hB
                rw [hB2]
                have HF : Hid (¬ ZMay z) := fun g => hB (freeOk_at g.free (by omega) hX.out).1
                clear hF hq hX htk hty
                go_wp2
                go_ret
                exact ⟨⟨false, rfl, fun g => (by cases g), fun g => absurd g HF.out⟩, hbb⟩
            · have HM : Hid (ZMay z) := ⟨hn, by rw [htl]; exact hlen, hty.out, by have := hF.out; rw [List.take_of_length_le (by omega)] at this; exact this⟩
              have hbb := I2.b
              clear hF hq hty
              go_wp2
              go_ret
              exact ⟨⟨true, rfl, fun _ => HM.out, fun _ => rfl⟩, hbb⟩
    · have HF : Hid (¬ ZMay z) := fun g => hlen (by have := g.len; rw [htl] at this; exact this)
      go_wp2
      go_ret
      exact ⟨⟨false, rfl, fun g => (by cases g), fun g => absurd g HF.out⟩, I1.b⟩
  · go_enter Try.func36, Try.ntmps36
    go_wp2_with fail
    go_at_call 24
    refine (zoneNew_no _ z.f z.t hn).mono ?_
    rintro e w1 ⟨rfl, hb1⟩
    have I1 := I0.step hb1
    have HF : Hid (¬ ZMay z) := fun g => hn g.new
    have hbx := I1.b.trans ((below_box w1 (.cells #[.int .i64 0, .int .i64 0, .slice none 0 0, .slice none 0 0] 44)).mono I1.b.size)
    clear I0 I1 hb1 hn
    go_wp2
    go_ret
    exact ⟨⟨false, rfl, fun g => (by cases g), fun g => absurd g HF.out⟩, hbx⟩

end Go.Proofs.Ytkjnblpmbldblaa
