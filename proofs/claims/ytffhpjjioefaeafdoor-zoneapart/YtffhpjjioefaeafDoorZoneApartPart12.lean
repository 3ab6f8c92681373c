/-
  OWN TEXTS, bundled: BClone, AInt, WZoneApart.
-/
import Derived.Test.YtffhpjjioefaeafDoorPart6
import Derived.Test.YtffhpjjioefaeafDoorPart2
import Derived.WalkSpells
import Derived.Test.YtffhpjjioefaeafDoorPart3
import Derived.Test.YtffhpjjioefaeafDoorPart11

/-
  OWN TEXT. Contract of slices.Clone at a slice of blocks; blocks that are put behind others.
-/
namespace Go.Proofs.YtffhpjjioefaeafDoor
open Go Go.RowKit Go.Proofs.YtffhpjjioefaeafDoor.Kit

theorem bclone_any (w : World) (ao : Option Addr) (n cap : Nat) (l : List Bk) (h : Blks w ao n l) :
    Calls Tryd.prog 9 #[.slice ao n cap] w fun e w' => ∃ bo c, e = .returned (.slice bo n c) ∧ w'.ownsRow w.heap.size 32 3 (.slice bo n c) n (bvals l) ∧ Below w.heap.size w w' := by
  have q22 : ∀ (w : World) (a : Option Addr) (n c n' c' : Nat), (binOp .eql 23 (.slice a n c) (.slice none n' c')).run Tryd.prog w = .ok (.bool a.isNone) w := fun w a n c n' c' => Lib.run_eql_slice_nil w _ _ a n c n' c' Tryd.underlying23
  obtain ⟨hn, hr, hx⟩ := h
  cases ao with
  | none =>
    have h0 : n = 0 := by
      rcases Nat.eq_zero_or_pos n with e | e
      · exact e
      · obtain ⟨b, o, e1, _⟩ := hx 0 (by omega)
        cases e1
    subst h0
    have hl : l = [] := List.eq_nil_of_length_eq_zero hn
    subst hl
    go_enter Tryd.func9, Tryd.ntmps9
    go_wp2
    go_ret
    exact ⟨none, 0, rfl, World.ownsRow_nil _ _ _ _, Below.refl _ _⟩
  | some ad =>
    obtain ⟨i0, hi, hz0, hz1, hz2⟩ := info_parts info_block
    have hml : 0 + n ≤ maxLen := by unfold maxLen; omega
    have hl : (bvals l).length = n * 3 := by rw [length_bvals, hn]
    have hby : (0 + n) * 24 ≤ 140737488355328 := by omega
    have hb0 : Below w.heap.size w (w.alloc (.cells #[] 32)) := (Below.refl _ _).alloc (Nat.le_refl _) _
    have hsrc : ∀ j u, (bvals l)[j]? = some u → (w.alloc (.cells #[] 32)).cell? (ad.add j) = some u := by
      by_cases h0 : 0 < l.length
      · obtain ⟨ad', he, hs⟩ := bsrc_of (hx.below hb0) h0
        cases he
        exact hs
      · intro j u hj
        have : bvals l = [] := List.eq_nil_of_length_eq_zero (by rw [length_bvals]; omega)
        rw [this] at hj
        simp at hj
    have hone := bvals_oneCell l
    obtain ⟨cs, hcs⟩ : ∃ cs, cs = bvals l := ⟨_, rfl⟩
    rw [← hcs] at hl hsrc hone ⊢
    have hown0 : (w.alloc (.cells #[] 32)).ownsRow w.heap.size 32 3 (.slice (some ⟨w.heap.size, 0, none⟩) 0 0) 0 [] := World.ownsRow_lit w #[] 0 (Nat.le_refl _) (by unfold maxLen; omega) rfl
    have hle : w.heap.size ≤ (w.alloc (.cells #[] 32)).heap.size := hb0.size
    have HS : Hid (∀ j u, cs[j]? = some u → (w.alloc (.cells #[] 32)).cell? (ad.add j) = some u) := hsrc
    have HO : Hid ((w.alloc (.cells #[] 32)).ownsRow w.heap.size 32 3 (.slice (some ⟨w.heap.size, 0, none⟩) 0 0) 0 []) := hown0
    clear hcs hx hsrc hown0
    go_enter Tryd.func9, Tryd.ntmps9
    go_wp2_with (at_builtin; refine wpList_append_own _ rfl (.tmp 5) (.tmp 6) 23 rfl w.heap.size 32 i0 _ 3 24 Tryd.underlying23 hi hz0 hz1 hz2 rfl (by decide) _ _ _ rfl HO.out ad n cap cs rfl hl HS.out hone hml hby hle ?_)
    intro v' w1 hown hgrow _
    obtain ⟨bo, c, rfl⟩ := owns_shape hown
    have hb : Below w.heap.size w w1 := hb0.grown hgrow hb0.size (by simp [Value.ownBlock])
    clear hgrow hb0
    go_wp2
    go_ret
    refine ⟨bo, c, ?_, ?_, hb⟩
    · simp
    · simpa using hown

/-- append of blocks that can be read behind a row that the call owns. -/
theorem append_blks (w : World) (base : Nat) (bo : Option Addr) (n c : Nat) (l : List Bk) (own : w.ownsRow base 32 3 (.slice bo n c) n (bvals l)) (hn : n ≤ 1000) (ro : Option Addr) (m rc : Nat) (r : List Bk) (hr : Blks w ro m r) (hm : m ≤ 1000) (hb : base ≤ w.heap.size) :
    ∃ bo' c' w', (Builtin.append_ #[23, 23] 23 #[.slice bo n c, .slice ro m rc]).run Tryd.prog w = .ok (.slice bo' (n + m) c') w' ∧ w'.ownsRow base 32 3 (.slice bo' (n + m) c') (n + m) (bvals (l ++ r)) ∧ Below base w w' := by
  obtain ⟨i0, hi, hz0, hz1, hz2⟩ := info_parts info_block
  have hrl := hr.len
  cases ro with
  | none =>
    have h0 : m = 0 := by
      rcases Nat.eq_zero_or_pos m with e | e
      · exact e
      · obtain ⟨b, o, e1, _⟩ := hr.at_ 0 (by omega)
        cases e1
    subst h0
    have hl : r = [] := List.eq_nil_of_length_eq_zero hrl
    subst hl
    refine ⟨bo, c, w, ?_, by rw [List.append_nil]; exact own, Below.refl _ _⟩
    rcases own.2 with ⟨e1, e2⟩ | ⟨g, cap, cur, e1, _, _, hnc, _⟩
    · simp only [Value.slice.injEq] at e1
      obtain ⟨rfl, rfl, rfl⟩ := e1
      simp [Builtin.append_, run_underlying Tryd.underlying23, sizeOf, typeInfo, hi, Builtin.lenOf, Builtin.firstCells]
    · simp only [Value.slice.injEq] at e1
      obtain ⟨rfl, _, rfl⟩ := e1
      simp [Builtin.append_, run_underlying Tryd.underlying23, sizeOf, typeInfo, hi, Builtin.lenOf, Builtin.firstCells, hnc, storeCells]
  | some ad =>
    have hsrc : ∀ j u, (bvals r)[j]? = some u → w.cell? (ad.add j) = some u := by
      by_cases h0 : 0 < r.length
      · obtain ⟨ad', he, hs⟩ := bsrc_of hr.at_ h0
        cases he
        exact hs
      · intro j u hj
        have : bvals r = [] := List.eq_nil_of_length_eq_zero (by rw [length_bvals]; omega)
        rw [this] at hj
        simp at hj
    obtain ⟨v', w', hrun, ho, hg, _⟩ := run_append_own (P := Tryd.prog) (w := w) base 23 23 32 i0 _ 3 24 Tryd.underlying23 hi hz0 hz1 hz2 rfl (by decide) (.slice bo n c) n (bvals l) own ad m rc (bvals r) (by rw [length_bvals, hrl]) hsrc (bvals_oneCell r) (by unfold maxLen; omega) (by omega) hb
    obtain ⟨bo', c', rfl⟩ := owns_shape ho
    exact ⟨bo', c', w', hrun, by rw [bvals_append]; exact ho, (Below.refl base w).grown hg hb (fun g hg => (own.lt g hg).1)⟩

end Go.Proofs.YtffhpjjioefaeafDoor

/-
  OWN TEXT. Numbers of 256 pages as a block of cells.
-/
namespace Go.Proofs.YtffhpjjioefaeafDoor
open Go Go.RowKit Go.Proofs.YtffhpjjioefaeafDoor.Kit

def zcI : Array Value := Array.replicate 256 (.int .i64 0)
theorem zero_ai (w : World) : (zeroValue 29).run Tryd.prog w = .ok (.agg zcI) w := by kernel_rfl

/-- The numbers as cells. -/
def mkI (h : Int → Nat) : Array Value := Array.ofFn (n := 256) fun i => .int .i64 ((h (i.val : Int) : Nat) : Int)
theorem mkI_size (h : Int → Nat) : (mkI h).size = 256 := Array.size_ofFn
theorem mkI_get (h : Int → Nat) (p : Nat) (hp : p < 256) : (mkI h)[p]? = some (.int .i64 ((h p : Nat) : Int)) := by
  unfold mkI
  rw [Array.getElem?_ofFn, dif_pos hp]
theorem mkI_eq {cs : Array Value} {h : Int → Nat} (hs : cs.size = 256) (hc : ∀ p : Nat, p < 256 → cs[p]? = some (.int .i64 ((h p : Nat) : Int))) : cs = mkI h := by
  apply Array.ext_getElem?
  intro i
  by_cases hi : i < 256
  · rw [hc i hi, mkI_get h i hi]
  · rw [Array.getElem?_eq_none (by omega), Array.getElem?_eq_none (by rw [mkI_size]; omega)]
theorem mkI_ext {h g : Int → Nat} (e : ∀ p : Nat, p < 256 → h p = g p) : mkI h = mkI g := mkI_eq (mkI_size h) (fun p hp => by rw [mkI_get h p hp, e p hp])
theorem zcI_eq : zcI = mkI fun _ => 0 := mkI_eq (by simp [zcI]) (fun p hp => by simp [zcI, hp])
theorem mkI_set (h g : Int → Nat) (p : Nat) (_hp : p < 256) (e1 : g p = h p + 1) (e2 : ∀ q : Nat, q ≠ p → g q = h q) : (mkI h).setIfInBounds p (.int .i64 (((h p : Nat) : Int) + 1)) = mkI g := by
  refine mkI_eq (by rw [Array.size_setIfInBounds, mkI_size]) fun q hq => ?_
  rw [Array.getElem?_setIfInBounds]
  by_cases e : p = q
  · subst e
    rw [if_pos rfl, if_pos (by rw [mkI_size]; omega), e1]
    simp
  · rw [if_neg e, mkI_get h q hq, e2 q (fun x => e x.symm)]

def RowI (w : World) (b : Nat) (h : Int → Nat) : Prop := w.heap[b]? = some (.cells (mkI h) 29 (0, 0))
theorem RowI.cell {w : World} {b : Nat} {h : Int → Nat} (hm : RowI w b h) (p : Nat) (hp : p < 256) : w.cell? ⟨b, p, none⟩ = some (.int .i64 ((h p : Nat) : Int)) := by
  rw [cell_of_row _ _ _ _ _ _ hm, mkI_get h p hp]
theorem RowI.fz {w : World} {b : Nat} {h : Int → Nat} (hm : RowI w b h) (p : Nat) : w.frozen? ⟨b, p, none⟩ = false := frozen_of_row _ _ _ _ _ hm
theorem RowI.lt {w : World} {b : Nat} {h : Int → Nat} (hm : RowI w b h) : b < w.heap.size := (Array.getElem?_eq_some_iff.1 hm).1
theorem RowI.below {w w' : World} {b : Nat} {h : Int → Nat} (hm : RowI w b h) (hb : Below w.heap.size w w') : RowI w' b h := (hb.block b hm.lt).trans hm
theorem RowI.set {w : World} {b : Nat} {h g : Int → Nat} (hm : RowI w b h) (p : Nat) (hp : p < 256) (e1 : g p = h p + 1) (e2 : ∀ q : Nat, q ≠ p → g q = h q) : RowI (w.setCell ⟨b, p, none⟩ (.int .i64 (((h p : Nat) : Int) + 1))) b g := by
  unfold RowI
  rw [← mkI_set h g p hp e1 e2]
  exact heap_setCell_same _ _ _ _ _ _ hm

theorem ixI (cs : Array Value) (p : Nat) (x : Int) (hp : p < 256) (hv : cs[p]? = some (.int .i64 x)) (w : World) : (Instr.index 29 (.agg cs) (.int .i64 (p : Int))).run Tryd.prog w = .ok (.int .i64 x) w := by
  have hz : ∀ w, (Go.sizeOf 3).run Tryd.prog w = .ok 1 w := fun w => Tryd.sizeOf3 w
  simp [Instr.index, asIntOf, run_underlying Tryd.underlying29, hz, part, hv]
  exact fun h => absurd h (by omega)

theorem cnt_le (l : List Bk) (p : Int) : cnt l p ≤ l.length := by
  induction l with
  | nil => exact Nat.le_refl _
  | cons b l ih =>
    simp only [cnt, List.length_cons]
    have : hit b.a b.o p ≤ 1 := by unfold hit; split <;> omega
    omega

end Go.Proofs.YtffhpjjioefaeafDoor

/-
  OWN TEXT. The walk of the law ZoneApart: it returns true and writes nothing that was there.
-/
namespace Go.Proofs.YtffhpjjioefaeafDoor
open Go Go.RowKit Go.Proofs.YtffhpjjioefaeafDoor.Kit

/-- What the loops of ZoneApart hold: the numbers of the pages, and both lists. -/
structure ApI (w : World) (sb : Nat) (xo : Option Addr) (N : Nat) (L : List Bk) (ro : Option Addr) (m : Nat) (aw : List Bk) (h : Int → Nat) (W : World) : Prop where
  b : Below w.heap.size w W
  sb1 : w.heap.size ≤ sb
  row : RowI W sb h
  xs : Blks W xo N L
  aw_ : Blks W ro m aw
  p1 : Apt xo N sb
  p2 : Apt ro m sb
theorem ApI.below {w : World} {sb : Nat} {xo : Option Addr} {N : Nat} {L : List Bk} {ro : Option Addr} {m : Nat} {aw : List Bk} {h : Int → Nat} {W W' : World} (I : ApI w sb xo N L ro m aw h W) (hb : Below W.heap.size W W') : ApI w sb xo N L ro m aw h W' :=
  ⟨I.b.trans (hb.mono I.b.size), I.sb1, I.row.below hb, I.xs.below hb, I.aw_.below hb, I.p1, I.p2⟩
theorem ApI.mark {w : World} {sb : Nat} {xo : Option Addr} {N : Nat} {L : List Bk} {ro : Option Addr} {m : Nat} {aw : List Bk} {h g : Int → Nat} {W : World} (I : ApI w sb xo N L ro m aw h W) (p : Nat) (hp : p < 256) (e1 : g p = h p + 1) (e2 : ∀ q : Nat, q ≠ p → g q = h q) :
    ApI w sb xo N L ro m aw g (W.setCell ⟨sb, p, none⟩ (.int .i64 (((h p : Nat) : Int) + 1))) := by
  have hbt : But sb W (W.setCell ⟨sb, p, none⟩ (.int .i64 (((h p : Nat) : Int) + 1))) := (But.refl _ _).setCell _
  exact ⟨I.b.trans (hbt.below I.sb1 I.b.size), I.sb1, I.row.set p hp e1 e2, Blks.apt I.xs hbt I.p1, Blks.apt I.aw_ hbt I.p2, I.p1, I.p2⟩

/-- The numbers behind k blocks and q pages of the next one. -/
def seenK (L : List Bk) (k : Nat) (a : Int) (q : Nat) (p : Int) : Nat := cnt (L.take k) p + if a ≤ p ∧ p < a + q then 1 else 0

theorem seen_next (L : List Bk) (k : Nat) (a : Int) (q : Nat) : mkI (seenK L k a 0) = mkI (cnt (L.take k)) ∧ (∀ b : Bk, k < L.length → L.getD k .zero = b → b.a = a → pw b.o = q → mkI (seenK L k a q) = mkI (cnt (L.take (k + 1)))) := by
  refine ⟨mkI_ext fun p _ => ?_, fun b hk hb ha hq => mkI_ext fun p _ => ?_⟩
  · unfold seenK
    rw [if_neg (by omega)]
    rfl
  · have e : L.take (k + 1) = L.take k ++ [b] := by
      rw [List.take_succ_eq_append_getElem hk]
      congr 2
      rw [List.getD_eq_getElem?_getD, List.getElem?_eq_getElem hk] at hb
      exact hb
    unfold seenK
    rw [e, cnt_append, cnt_one]
    unfold hit
    rw [ha, hq]

set_option maxRecDepth 10000 in
set_option maxHeartbeats 16000000 in
theorem zoneApart_walk (ao : Option Addr) (n cap : Nat) (l : List Raw4) (w : World) (h : IsRaws w ao n cap l) (hT : TabAt w) :
    Calls Tryd.prog 3 #[.slice ao n cap] w fun e w' => e = .returned (.bool true) ∧ Below w.heap.size w w' := by
  have hzr := zero_ai
  go_enter Tryd.func3, Tryd.ntmps3
  go_wp2_with fail
  go_at_call 8
  refine (zoned_any w ao n cap l h 60 (by omega) hT).mono ?_
  rintro e w1 ⟨z, aw, fo, fn, fc, to_, tn, tc, ro, m, rcap, rfl, hz, hro, hZ, hm60, _, hb1⟩
  have hbx := below_box w1 (.cells #[.int .i64 z.f, .int .i64 z.t, .slice fo fn fc, .slice to_ tn tc] 26)
  have B1 := zbox_new w1 (.int .i64 z.f) (.int .i64 z.t) (.slice fo fn fc) (.slice to_ tn tc) 26
  have z1 := hz.below hbx
  have r1 := hro.below hbx
  have hB1 := hb1.trans (hbx.mono hb1.size)
  obtain ⟨W1, hW1⟩ : ∃ W1, w1.alloc (.cells #[.int .i64 z.f, .int .i64 z.t, .slice fo fn fc, .slice to_ tn tc] 26) = W1 := ⟨_, rfl⟩
  rw [hW1] at B1 z1 r1 hB1
  have HW1 : Hid _ := hW1
  have hb2 := below_box W1 (.cells zcI 29)
  have B2 := B1.below hb2
  have z2 := z1.below hb2
  have r2 := r1.below hb2
  have hB2 := hB1.trans (hb2.mono hB1.size)
  have row2 : RowI (W1.alloc (.cells zcI 29)) W1.heap.size fun _ => 0 := by
    unfold RowI
    rw [← zcI_eq]
    exact heap_alloc_new _ _
  have ap1 := apt_blks (g := W1.heap.size) r1 (Nat.le_refl _)
  have hs1 := hB1.size
  obtain ⟨W2, hW2⟩ : ∃ W2, W1.alloc (.cells zcI 29) = W2 := ⟨_, rfl⟩
  rw [hW2] at B2 z2 r2 hB2 row2
  have HW2 : Hid _ := hW2
  have c2 := B2.c2
  have hfl : z.free.length = fn := hz.free.len
  have hf256 := may_len hZ.may
  have hal : aw.length = m := hro.len
  clear hW1 hW2 hbx hz hro hb1 h B1 z1 r1 hb2
  go_wp2_with (first | rw [HW1.out] | rw [HW2.out])
  go_at_call 9
  refine (bclone_any W2 fo fn fc z.free z2.free).mono ?_
  rintro e w3 ⟨bo, bc, rfl, own3, hb3⟩
  have hB3 := hB2.trans (hb3.mono hB2.size)
  have r3 := r2.below hb3
  have row3 := row2.below hb3
  obtain ⟨xo, xc, w4, hrun, own4, hb4⟩ := append_blks w3 W2.heap.size bo fn bc z.free own3 (by omega) ro m rcap aw r3 (by omega) hb3.size
  have hB4 := hB3.trans (hb4.mono hB2.size)
  have hsl := row2.lt
  have row4 : RowI w4 W1.heap.size fun _ => 0 := (hb4.block _ hsl).trans row3
  have r4 : Blks w4 ro m aw := by
    refine ⟨r3.len, r3.reach, fun i hi => ?_⟩
    obtain ⟨b, o, e1, q1, q2, q3⟩ := r2.at_ i hi
    have hlt := World.block_lt_of_cell? W2 _ q1
    have hbb := (hb3.trans hb4)
    exact ⟨b, o, e1, keep q1 hbb, keep q2 hbb, keep q3 hbb⟩
  have x4 := blks_own own4 (by omega)
  obtain ⟨L, hL⟩ : ∃ L, z.free ++ aw = L := ⟨_, rfl⟩
  rw [hL] at x4
  have fr4 : Fresh W2.heap.size xo := owns_fresh own4
  have I0 : ApI w W1.heap.size xo (fn + m) L ro m aw (cnt (L.take 0)) w4 := ⟨hB4, hs1, row4, x4, r4, .fresh fr4 hsl, ap1⟩
  have hLc : ∀ p, cnt L p = if 18 ≤ p ∧ p < 108 then 1 else 0 := fun p => by rw [← hL, cnt_append]; exact hZ.cnt p
  have hLb : ∀ b ∈ L, blkIn 16 112 b.a b.o := fun b hb => by
    rw [← hL] at hb
    rcases List.mem_append.1 hb with hb | hb
    · have := may_blk hZ.may b hb
      rw [hZ.f, hZ.t] at this
      exact this
    · exact hZ.all b hb
  have hLl : L.length = fn + m := by rw [← hL, List.length_append]; omega
  have hN : fn + m ≤ 400 := by omega
  have haw := hZ.all
  obtain ⟨N, hNN⟩ : ∃ N, fn + m = N := ⟨_, rfl⟩
  rw [hNN] at I0 hLl hN hrun
  have HR : Hid _ := hrun
  have HLC : Hid _ := hLc
  have HLB : Hid _ := hLb
  generalize W1.heap.size = sb at *
  clear hrun own3 own4 x4 r4 row4 row3 row2 r3 r2 B2 z2 hB2 hB3 hb3 hb4 hB4 fr4 hL hNN hLc hLb hT hZ ap1 hsl hs1 hB1
  go_wp2_with (first | rw [HW2.out] | (at_builtin; refine Lib.wpList_append_run _ rfl (.tmp 22) (.tmp 23) 23 23 rfl _ _ rfl rfl _ _ HR.out ?_))
  clear HR HW1 HW2 c2 hzr
  go_loopw [26] (fun iv wr => ∃ k : Nat, k ≤ N ∧ iv = .int .i64 k ∧ ApI w sb xo N L ro m aw (cnt (L.take k)) wr) (fun iv _ => N - (intOf iv).toNat)
  case atStart => exact ⟨0, Nat.zero_le _, rfl, I0⟩
  case round =>
    obtain ⟨k, hk, rfl, I⟩ := hrel
    clear I0
    by_cases hlt : k < N
    · obtain ⟨b1, o1, x, y, u, rfl, x0, x1, x2, hX⟩ := I.xs.at_.at k (by omega)
      obtain ⟨⟨y0, y4⟩, ya, yb, _⟩ := HLB.out _ (getD_mem (l := L) (k := k) (by omega))
      rw [hX.out] at y0 y4 ya yb
      dsimp only at y0 y4 ya yb
      have hend : x + pw y ≤ 112 := by
        obtain ⟨_, _, q3, q4⟩ := HLB.out _ (getD_mem (l := L) (k := k) (by omega))
        rw [hX.out] at q3 q4
        exact blk_end ⟨y0, y4⟩ q3 q4 (by decide)
      have hw1 := wrap_pw y ⟨y0, y4⟩
      have hp1 := pw_pos y
      obtain ⟨P, hP⟩ : ∃ P : Nat, pw y = (P : Int) := ⟨(pw y).toNat, by omega⟩
      obtain ⟨X, hXn⟩ : ∃ X : Nat, x = (X : Int) := ⟨x.toNat, by omega⟩
      subst hXn
      obtain ⟨hsn0, hsn⟩ := seen_next L k (X : Int) P
      have hsn1 := hsn _ (by omega) hX.out rfl hP
      rw [hP] at hw1 hend
      have hbx := below_box wr (.cells #[.int .i64 (X : Int), .int .i64 y, .int .i64 u] 32)
      have f := tbox_new' wr ⟨(X : Int), y, u⟩ 32
      dsimp only at f
      have I1 := I.below hbx
      have hsbl := I.row.lt
      obtain ⟨W3, hW3⟩ : ∃ W3, wr.alloc (.cells #[.int .i64 (X : Int), .int .i64 y, .int .i64 u] 32) = W3 := ⟨_, rfl⟩
      rw [hW3] at f I1
      have HW3 : Hid _ := hW3
      obtain ⟨f0, f1, _⟩ := f
      have I2 : ApI w sb (some ⟨b1, o1, none⟩) N L ro m aw (seenK L k (X : Int) 0) W3 := ⟨I1.b, I1.sb1, by unfold RowI; rw [hsn0]; exact I1.row, I1.xs, I1.aw_, I1.p1, I1.p2⟩
      have HS1 : Hid _ := hsn1
      have hw2 : IntKind.i64.wrap ((X : Int) + P) = (X : Int) + P := IntWalk.i64_in _ (by omega)
      have hXs := hX.out
      have HXS : Hid _ := hXs
      obtain ⟨bb, hbb⟩ : ∃ bb, wr.heap.size = bb := ⟨_, rfl⟩
      have hbsb : sb < bb := by omega
      rw [hbb] at f0 f1
      clear hW3 hP hsn hsn0 hsn1 hbx I I1 hX hXs
      go_wp2_with (rw [HW3.out])
      clear HW3 x0 x1 x2 hbb
      have S2 : ApI w sb (some ⟨b1, o1, none⟩) N L ro m aw (seenK L k (X : Int) 0) W3 ∧ W3.cell? ⟨bb, 0, none⟩ = some (.int .i64 (X : Int)) ∧ W3.cell? ⟨bb, 1, none⟩ = some (.int .i64 y) := ⟨I2, f0, f1⟩
      clear I2 f0 f1
      go_loopw [9] (fun pv wr2 => ∃ q p : Nat, Hid (p = X + q) ∧ q ≤ P ∧ pv = .int .i64 p ∧ ApI w sb (some ⟨b1, o1, none⟩) N L ro m aw (seenK L k (X : Int) q) wr2 ∧ wr2.cell? ⟨bb, 0, none⟩ = some (.int .i64 (X : Int)) ∧ wr2.cell? ⟨bb, 1, none⟩ = some (.int .i64 y)) (fun pv _ => X + P - (intOf pv).toNat)
      case atStart => exact ⟨0, X, rfl, Nat.zero_le _, rfl, S2.1, S2.2.1, S2.2.2⟩
      case round =>
        obtain ⟨q, p, hpq, hq, rfl, J, e0, e1⟩ := hrel
        clear S2
        have hpo := hpq.out
        have hB := J.b
        have JD := fun d => J.below (below_drawn (w := wr) d)
        have E0 := fun d => keep e0 (below_drawn (w := wr) d)
        have E1 := fun d => keep e1 (below_drawn (w := wr) d)
        by_cases hin : (p : Int) < (X : Int) + P
        · have g1 : decide ((p : Int) < (X : Int) + P) = true := decide_eq_true hin
          clear hpo
          go_wp2_with fail
          go_quiet (fail)
          have J1 := JD nq
          have d0 := E0 nq
          have d1 := E1 nq
          have hpo := hpq.out
          have hc := J1.row.cell p (by omega)
          have hf := J1.row.fz p
          have J2 := J1.mark (g := seenK L k (X : Int) (q + 1)) p (by omega) (by unfold seenK; rw [if_pos (by omega), if_neg (by omega)]) (fun r hr => by
            unfold seenK
            by_cases c : (X : Int) ≤ r ∧ (r : Int) < X + q
            · rw [if_pos (by omega), if_pos c]
            · rw [if_neg (by omega), if_neg c])
          have hcl := cnt_le (L.take k) (p : Int)
          rw [List.length_take] at hcl
          have hsk : seenK L k (X : Int) q (p : Int) ≤ 401 := by unfold seenK; split <;> omega
          generalize hsv : seenK L k (X : Int) q (p : Int) = sv at hc J2 hsk
          have k0 := (World.cell?_setCell_other (wr.drewN nq) ⟨sb, p, none⟩ ⟨bb, 0, none⟩ (.int .i64 ((sv : Int) + 1)) (by intro e; have h9 := congrArg Addr.block e; dsimp only at h9; omega)).trans d0
          have k1 := (World.cell?_setCell_other (wr.drewN nq) ⟨sb, p, none⟩ ⟨bb, 1, none⟩ (.int .i64 ((sv : Int) + 1)) (by intro e; have h9 := congrArg Addr.block e; dsimp only at h9; omega)).trans d1
          have hp' : Hid (p + 1 = X + (q + 1)) := by show _ = _; omega
          have hp256 : (p : Int) < 256 := by omega
          have hq' : q + 1 ≤ P := by omega
          clear JD E0 E1 J J1 hpo hsv hcl
          go_wp2
          go_roundw
          case rel => exact ⟨q + 1, p + 1, hp', hq', by go_num, J2, k0, k1⟩
          case measure => simp [intOf]; omega
        · have g1 : decide ((p : Int) < (X : Int) + P) = false := decide_eq_false hin
          have hqP : q = P := by omega
          clear hpo
          go_wp2_with fail
          go_quiet (fail)
          have J1 := JD nq
          have J2 : ApI w sb (some ⟨b1, o1, none⟩) N L ro m aw (cnt (L.take (k + 1))) (wr.drewN nq) := ⟨J1.b, J1.sb1, by have := J1.row; unfold RowI at this ⊢; rw [hqP, HS1.out] at this; exact this, J1.xs, J1.aw_, J1.p1, J1.p2⟩
          clear JD E0 E1 J J1 hqP
          go_wp2
          go_roundw
          case rel => exact ⟨k + 1, by omega, by go_num, J2⟩
          case measure => simp [intOf]; omega
    · have hkN : L.take k = L := List.take_of_length_le (by omega)
      rw [hkN] at I
      obtain ⟨M, hM⟩ : ∃ M, M = 256 := ⟨_, rfl⟩
      have zT : ∀ w, (sizeOf 29).run Tryd.prog w = .ok M w := by subst hM; exact fun _ => by kernel_rfl
      have aT : ∀ w, (isAgg 29).run Tryd.prog w = .ok true w := fun _ => by kernel_rfl
      have hld : (loadCellsFrom ⟨sb, 0, none⟩ 0 M #[]).run Tryd.prog wr = .ok (mkI (cnt L)) wr := load_row I.row (by rw [mkI_size, hM])
      have hget : ∀ p : Nat, p < 256 → (mkI (cnt L))[p]? = some (.int .i64 ((cnt L p : Nat) : Int)) := fun p hp => mkI_get _ p hp
      have hcs : (mkI (cnt L)).size = M := by rw [mkI_size, hM]
      generalize mkI (cnt L) = cur at hld hget hcs
      have HG : Hid _ := hget
      have HM : Hid _ := hM
      have J0 : Below w.heap.size w wr ∧ Blks wr ro m aw := ⟨I.b, I.aw_⟩
      clear hget hM I hkN
      go_wp2_with fail
      clear zT aT hld hcs
      go_loopw [49] (fun pv wr2 => ∃ p : Nat, Hid (p ≤ 256) ∧ pv = .int .i64 p ∧ (Below w.heap.size w wr2 ∧ Blks wr2 ro m aw)) (fun pv _ => M - (intOf pv).toNat)
      case atStart => exact ⟨0, Nat.zero_le _, rfl, J0⟩
      case round =>
        obtain ⟨p, hp, rfl, J⟩ := hrel
        clear J0
        by_cases hlt : (p : Int) < 256
        · have hcv := HLC.out (p : Int)
          have hg := HG.out p (by omega)
          have hpM : p + 1 ≤ M := by have := HM.out; omega
          have hp1 : Hid (p + 1 ≤ 256) := by show _ ≤ _; omega
          by_cases c1 : (18 : Int) ≤ p
          · by_cases c2 : (p : Int) < 108
            · rw [if_pos ⟨c1, c2⟩] at hcv
              rw [hcv] at hg
              have ix := ixI cur p 1 (by omega) hg
              clear hcv hg
              go_wp2
              go_roundw
              case rel => exact ⟨p + 1, hp1, by go_num, J⟩
              case measure => simp [intOf]; omega
            · rw [if_neg (fun g => c2 g.2)] at hcv
              rw [hcv] at hg
              have ix := ixI cur p 0 (by omega) hg
              clear hcv hg
              go_wp2
              go_roundw
              case rel => exact ⟨p + 1, hp1, by go_num, J⟩
              case measure => simp [intOf]; omega
          · rw [if_neg (fun g => c1 g.1)] at hcv
            rw [hcv] at hg
            have ix := ixI cur p 0 (by omega) hg
            clear hcv hg
            go_wp2
            go_roundw
            case rel => exact ⟨p + 1, hp1, by go_num, J⟩
            case measure => simp [intOf]; omega
        · have J1 := J
          clear J HG HM hp
          go_wp2_with fail
          go_loopw [69] (fun iv wr3 => ∃ i : Nat, i ≤ m ∧ iv = .int .i64 i ∧ (Below w.heap.size w wr3 ∧ Blks wr3 ro m aw)) (fun iv _ => m - (intOf iv).toNat)
          case atStart => exact ⟨0, Nat.zero_le _, rfl, J1⟩
          case round =>
            obtain ⟨i, hi, rfl, J⟩ := hrel
            clear J1
            by_cases hlt2 : i < m
            · obtain ⟨b1, o1, x, y, u, rfl, x0, x1, x2, hX⟩ := J.2.at_.at i (by omega)
              obtain ⟨⟨y0, y4⟩, ya, yb, yc⟩ := haw _ (getD_mem (l := aw) (k := i) (by omega))
              rw [hX.out] at y0 y4 ya yb yc
              dsimp only at y0 y4 ya yb yc
              have hw1 := wrap_pw y ⟨y0, y4⟩
              have hp1 := pw_pos y
              have hp2 := pw_le (o := y) ⟨y0, y4⟩
              have hrem : x.tmod (pw y) = 0 := by rw [Int.tmod_eq_emod_of_nonneg (by omega)]; exact yc
              obtain ⟨P, hP⟩ : ∃ P, pw y = P := ⟨_, rfl⟩
              rw [hP] at hw1 hp1 hp2 hrem
              have hP0 : (P == 0) = false := by simp; omega
              have hbx := below_box wr (.cells #[.int .i64 x, .int .i64 y, .int .i64 u] 32)
              have f := tbox_new' wr ⟨x, y, u⟩ 32
              dsimp only at f
              have J2 : Below w.heap.size w _ ∧ Blks _ _ m aw := ⟨J.1.trans (hbx.mono J.1.size), J.2.below hbx⟩
              obtain ⟨W3, hW3⟩ : ∃ W3, wr.alloc (.cells #[.int .i64 x, .int .i64 y, .int .i64 u] 32) = W3 := ⟨_, rfl⟩
              rw [hW3] at f J2
              have HW3 : Hid _ := hW3
              obtain ⟨f0, f1, _⟩ := f
              have JD := fun d => (⟨J2.1.trans ((below_drawn (w := W3) d).mono J2.1.size), J2.2.below (below_drawn (w := W3) d)⟩ : Below w.heap.size w (W3.drewN d) ∧ Blks (W3.drewN d) (some ⟨b1, o1, none⟩) m aw)
              clear hW3 hbx J J2 hX hP yc
              go_wp2_with (rw [HW3.out])
              go_quiet (fail)
              have J4 := JD nq
              clear JD HW3 x0 x1 x2 f0 f1
              go_wp2
              go_roundw
              case rel => exact ⟨i + 1, by omega, by go_num, J4⟩
              case measure => simp [intOf]; omega
            · have hB := J.1
              go_wp2
              go_ret
              exact ⟨rfl, hB⟩

end Go.Proofs.YtffhpjjioefaeafDoor
