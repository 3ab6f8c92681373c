/-
  OWN TEXTS, bundled: ZcJoin, ZcGroup, BCon, AppK2, BIns, BIns2, BIns3, BIns4, ZcPut, ZoT.
-/
import Derived.Test.YtbjlbmofdnkmiaaPagesDrainsPart8
import Derived.Test.YtbjlbmofdnkmiaaPagesDrainsPart9
import Derived.Test.YtbjlbmofdnkmiaaPagesDrainsPart5
import Derived.Deep.RegionWith
import Derived.Test.YtbjlbmofdnkmiaaPagesDrainsPart4

/-
  OWN TEXT. Contract of the code: buddy.join.
-/
namespace Go.Proofs.Ytbjlbmofdnkmiaa
open Go Go.RowKit Go.Proofs.Ytbjlbmofdnkmiaa.Kit

set_option maxHeartbeats 1000000 in
theorem joinF_any (W : World) (b1 b2 : Nat) (x o : Int) (ba bo bt : Int) (c1 : W.cell? ⟨b1, 0, none⟩ = some (.int .i64 x)) (c2 : W.cell? ⟨b2, 0, none⟩ = some (.int .i64 o)) :
    Calls Try.prog 106 (#[.agg #[.int .i64 ba, .int .i64 bo, .int .i64 bt]] ++ #[.pointer (some ⟨b1, 0, none⟩), .pointer (some ⟨b2, 0, none⟩)]) W fun e W' => e = .returned (.bool (isB x o ⟨ba, bo, bt⟩)) ∧ Below W.heap.size W W' := by
  have hb0 := below_box W (.cells #[.int .i64 ba, .int .i64 bo, .int .i64 bt] 63)
  have d1 := keep c1 hb0
  have d2 := keep c2 hb0
  clear c1 c2
  by_cases g1 : ba = x
  · have HF : Hid ((bo == o) = isB x o ⟨ba, bo, bt⟩) := by
      show _ = decide (_ ∧ _)
      rw [show (bo == o) = decide (bo = o) from rfl]
      simp [g1]
    have g1' : (ba == x) = true := by simpa using g1
    clear g1
    go_enter Try.func106, Try.ntmps106
    go_wp2
    go_ret
    exact ⟨ret_bool HF.out, hb0⟩
  · have HF : Hid (false = isB x o ⟨ba, bo, bt⟩) := by
      show _ = decide (_ ∧ _)
      simp [g1]
    have g1' : (ba == x) = false := by simpa using g1
    clear g1
    go_enter Try.func106, Try.ntmps106
    go_wp2
    go_ret
    exact ⟨ret_bool HF.out, hb0⟩

theorem joinF_call (args : Array Value) (W : World) : (callFunc 106 args).run Try.prog W = .ok (.enter 106 args) W := by kernel_rfl

/-- What the loop of join knows: the zone behind the pointer, its row; the order in its box. -/
structure JnI (w : World) (base zb g cap ob : Nat) (f t : Int) (tv : Value) (l : List Bk) (n : Nat) (O : Int) (W : World) : Prop where
  b : Bu2 g zb w W
  box : ZBox W zb (.int .i64 f) (.int .i64 t) (.slice (some ⟨g, 0, none⟩) n cap) tv
  own : W.ownsRow base 63 3 (.slice (some ⟨g, 0, none⟩) n cap) n (bvals l)
  ord : W.cell? ⟨ob, 0, none⟩ = some (.int .i64 O)
  fz : W.frozen? ⟨ob, 0, none⟩ = false
theorem JnI.step {w : World} {base zb g cap ob : Nat} {f t : Int} {tv : Value} {l : List Bk} {n : Nat} {O : Int} {W W' : World} (h : JnI w base zb g cap ob f t tv l n O W) (hb : Below W.heap.size W W') : JnI w base zb g cap ob f t tv l n O W' :=
  ⟨h.b.trans (.of_below hb), h.box.below hb, owns_below h.own hb (Nat.le_refl _), keep h.ord hb, (hb.frozen (p := ⟨ob, 0, none⟩) (World.block_lt_of_cell? W _ h.ord)).trans h.fz⟩
theorem JnI.del {w : World} {base zb g cap ob : Nat} {f t : Int} {tv : Value} {l m : List Bk} {n k : Nat} {O : Int} {W W' : World} (h : JnI w base zb g cap ob f t tv l n O W) (hb : But g W W') (own : W'.ownsRow base 63 3 (.slice (some ⟨g, 0, none⟩) k cap) k (bvals m)) (hgz : g ≠ zb) (hgo : ob ≠ g) (hzo : ob ≠ zb) :
    JnI w base zb g cap ob f t tv m k O (W'.setCell ⟨zb, 2, none⟩ (.slice (some ⟨g, 0, none⟩) k cap)) := by
  have hbt : But zb W' (W'.setCell ⟨zb, 2, none⟩ (.slice (some ⟨g, 0, none⟩) k cap)) := (But.refl _ _).setCell _
  refine ⟨(h.b.trans (.of_but_g hb)).trans (.of_but_z hbt), (h.box.but hb (Ne.symm hgz)).set2 _, own_but own hbt hgz, hbt.cell (hb.cell h.ord hgo) hzo, ?_⟩
  have h1 := World.block_lt_of_cell? W _ h.ord
  have h2 := hb.block ob h1 hgo
  have h3 := hbt.block ob (Nat.lt_of_lt_of_le h1 hb.size) hzo
  exact (World.frozen?_of_block (a := ⟨ob, 0, none⟩) (h3.trans h2)).trans h.fz
theorem JnI.inc {w : World} {base zb g cap ob : Nat} {f t : Int} {tv : Value} {l : List Bk} {n : Nat} {O : Int} {W : World} (h : JnI w base zb g cap ob f t tv l n O W) (hgo : ob ≠ g) (hzo : ob ≠ zb) (ho : w.heap.size ≤ ob) (P : Int) : JnI w base zb g cap ob f t tv l n P (W.setCell ⟨ob, 0, none⟩ (.int .i64 P)) := by
  have hbt : But ob W (W.setCell ⟨ob, 0, none⟩ (.int .i64 P)) := (But.refl _ _).setCell _
  refine ⟨⟨hbt.os.trans h.b.os, hbt.tape.trans h.b.tape, hbt.output.trans h.b.output, Nat.le_trans h.b.size hbt.size, fun k hk h1 h2 => (hbt.block k (Nat.lt_of_lt_of_le hk h.b.size) (by omega)).trans (h.b.block k hk h1 h2)⟩, h.box.but hbt (Ne.symm hzo), own_but h.own hbt (Ne.symm hgo), World.cell?_setCell_same _ _ _ h.ord, by simpa using h.fz⟩

set_option maxHeartbeats 4000000 in
theorem join_any (w : World) (base zb g n cap : Nat) (f t : Int) (tv : Value) (l : List Bk) (a o : Int) (hz : newOk f t)
    (Z : ZBox w zb (.int .i64 f) (.int .i64 t) (.slice (some ⟨g, 0, none⟩) n cap) tv) (own : w.ownsRow base 63 3 (.slice (some ⟨g, 0, none⟩) n cap) n (bvals l)) (hgz : g ≠ zb) (hn : n ≤ 256)
    (hI : Inc l) (hL : ∀ b ∈ l, blkIn f t b.a b.o) (hA : blkIn f t a o) (R : List Bk × Int × Int) (hR : backGo (4 - o).toNat l a o = R) :
    Calls Try.prog 92 #[.pointer (some ⟨zb, 0, none⟩), .int .i64 a, .int .i64 o] w fun e w' => (∃ n', e = .returned (.tuple #[.int .i64 R.2.1, .int .i64 R.2.2]) ∧ n' ≤ n ∧
      ZBox w' zb (.int .i64 f) (.int .i64 t) (.slice (some ⟨g, 0, none⟩) n' cap) tv ∧ w'.ownsRow base 63 3 (.slice (some ⟨g, 0, none⟩) n' cap) n' (bvals R.1) ∧ Bu2 g zb w w') ∧ blkIn f t R.2.1 R.2.2 := by
  obtain ⟨n1, n2, n3, n4, n5⟩ := hz
  have hzl := Z.lt
  have hgl : g < w.heap.size := (own.lt _ rfl).2
  have hb0 := below_box w (.cells #[.int .i64 o] 3)
  obtain ⟨W0, hW0⟩ : ∃ W0, w.alloc (.cells #[.int .i64 o] 3) = W0 := ⟨_, rfl⟩
  have J0 : JnI w base zb g cap w.heap.size f t tv l n o W0 := by
    rw [← hW0]
    exact ⟨.of_below hb0, Z.below hb0, owns_below own hb0 (Nat.le_refl _), by simp, by simp⟩
  have HR : Hid (backGo (4 - o).toNat l a o = R) := hR
  have HW0 : Hid _ := hW0
  have go1 : w.heap.size ≠ g := by omega
  have go2 : w.heap.size ≠ zb := by omega
  clear hW0 hb0 Z own hR
  go_enter Try.func92, Try.ntmps92
  go_wp2_with (rw [HW0.out])
  clear HW0
  go_loopw [1] (fun av W => ∃ (A O : Int) (l' : List Bk) (n' : Nat), av = .int .i64 A ∧ blkIn f t A O ∧ Hid (backGo (4 - O).toNat l' A O = R) ∧ Hid (Inc l') ∧ (∀ b ∈ l', blkIn f t b.a b.o) ∧ n' ≤ n ∧ JnI w base zb g cap w.heap.size f t tv l' n' O W) (fun _ W => (4 - intOf ((W.cell? ⟨w.heap.size, 0, none⟩).getD undef)).toNat)
  case atStart => exact ⟨a, o, l, n, rfl, hA, HR, hI, hL, Nat.le_refl _, J0⟩
  case round =>
    obtain ⟨A, O, l', n', rfl, hA', hG, hI', hL', hn', J⟩ := hrel
    clear J0 HR hI hL hA
    obtain ⟨⟨o0, o4⟩, a1, a2, a3⟩ := id hA'
    obtain ⟨AN, rfl⟩ : ∃ AN : Nat, A = AN := ⟨A.toNat, by omega⟩
    have x2 := J.box.c2
    have z2 := J.box.z2
    have xo := J.ord
    have fo := J.fz
    have hsr := J.b.size
    have HXO : Hid (wr.cell? ⟨w.heap.size, 0, none⟩ = some (.int .i64 O)) := J.ord
    by_cases hO : O < 4
    · obtain ⟨X, hX⟩ : ∃ X, besideA (AN : Int) O = X := ⟨_, rfl⟩
      have HC := beside_any wr AN O ⟨o0, o4⟩ hO (by omega) a3
      rw [hX] at HC
      have HX : Hid (besideA (AN : Int) O = X) := hX
      obtain ⟨m, hm⟩ : ∃ m : Nat, (4 - O).toNat = m + 1 := ⟨(4 - O).toNat - 1, by omega⟩
      have hm2 : (4 - (O + 1)).toNat = m := by omega
      have hG1 : Hid (backGo (m + 1) l' (AN : Int) O = R) := by have := hG.out; rw [hm] at this; exact this
      clear hX hG
      go_wp2_with fail
      go_at_call 105
      refine HC.mono ?_
      rintro e w' ⟨rfl, rfl⟩
      clear HC
      have hbx := below_box wr (.cells #[.int .i64 X] 3)
      have J1 := J.step hbx
      have q1 : (wr.alloc (.cells #[.int .i64 X] 3)).cell? ⟨wr.heap.size, 0, none⟩ = some (.int .i64 X) := by simp
      obtain ⟨W1, hW1⟩ : ∃ W1, wr.alloc (.cells #[.int .i64 X] 3) = W1 := ⟨_, rfl⟩
      rw [hW1] at J1 q1
      have HW1 : Hid _ := hW1
      have y2 := J1.box.c2
      have yo := J1.ord
      have hlen := bowns_len J1.own
      have hHold : HoldsB 106 #[.pointer (some ⟨wr.heap.size, 0, none⟩), .pointer (some ⟨w.heap.size, 0, none⟩)] l' (isB X O) W1 := fun i hi W hb => joinF_any W _ _ X O _ _ _ (keep q1 hb) (keep yo hb)
      have HIx := bIndex_any W1 106 #[.pointer (some ⟨wr.heap.size, 0, none⟩), .pointer (some ⟨w.heap.size, 0, none⟩)] (some ⟨g, 0, none⟩) n' cap l' (isB X O) (blks_own J1.own (by omega)) joinF_call hHold
      clear hHold hW1 hbx J x2 z2 xo fo
      go_wp2_with (first | (rw [HW1.out]) | fail)
      go_at_call 46
      refine HIx.mono ?_
      rintro e W2 ⟨hf, hb2⟩
      have J2 := J1.step hb2
      have q2 := keep q1 hb2
      clear HIx J1 q1 y2 yo hb2 HW1
      have y2 := J2.box.c2
      have z2 := J2.box.z2
      have yo := J2.ord
      have fo := J2.fz
      rcases hf with ⟨k, hk, rfl, hk1, hk2⟩ | ⟨rfl, hk1⟩
      · obtain ⟨N, rfl⟩ : ∃ N, n' = N + 1 := ⟨n' - 1, by omega⟩
        have HD := bDel_any W2 base g N cap k l' (by omega) (by omega) J2.own
        have HE : Hid (l'.eraseIdx k = dropB l' X O) := erase_eq hI'.out hk hk1
        have hh : hasB l' X O = true := has_of hk hk1
        rw [HE.out] at HD
        obtain ⟨A2, hA2⟩ : ∃ A2, (if X < (AN : Int) then X else (AN : Int)) = A2 := ⟨_, rfl⟩
        have hG2 : Hid (backGo (4 - (O + 1)).toNat (dropB l' X O) A2 (O + 1) = R) := by
          show _ = _
          rw [hm2, ← hG1.out, backGo, HX.out, if_pos hh, hA2]
        have hB2 : blkIn f t A2 (O + 1) := by
          have h1 := join_in hA' (by rw [HX.out]; exact hasB_in hh hL') hO
          rw [HX.out, hA2] at h1
          exact h1
        have hL2 : ∀ b ∈ dropB l' X O, blkIn f t b.a b.o := fun b hb => hL' b (dropB_mem hb)
        have hI2 : Hid (Inc (dropB l' X O)) := hI'.out.drop X O
        obtain ⟨D, hD⟩ : ∃ D, dropB l' X O = D := ⟨_, rfl⟩
        rw [hD] at hG2 hL2 hI2 HD
        clear hk1 hk2 HE hh hG1 hI' hL' hD
        go_wp2_with fail
        go_at_call 48
        refine HD.mono ?_
        rintro e W3 ⟨rfl, own3, hb3⟩
        have J3 := J2.del hb3 own3 hgz go1 go2
        have q3 := hb3.cell q2 (by omega)
        have o3 := hb3.cell J2.ord go1
        have B3 := J2.box.but hb3 (Ne.symm hgz)
        have u2 := B3.c2
        have v2 := B3.z2
        have f3 : W3.frozen? ⟨w.heap.size, 0, none⟩ = false := by
          have h2 := hb3.block w.heap.size (World.block_lt_of_cell? W2 _ J2.ord) go1
          exact (World.frozen?_of_block (a := ⟨w.heap.size, 0, none⟩) h2).trans J2.fz
        have J5 := J3.inc go1 go2 (Nat.le_refl _) (O + 1)
        have gw : ¬ (wr.heap.size = zb) := by omega
        have gw2 : ¬ (w.heap.size = zb) := go2
        have gz1 : ¬ (zb = w.heap.size) := by omega
        have gz2 : ¬ (zb = wr.heap.size) := by omega
        clear HD J2 J3 B3 y2 z2 yo fo q2 hb3 own3
        by_cases hXA : X < (AN : Int)
        · obtain rfl : A2 = X := by rw [← hA2, if_pos hXA]
          clear hA2
          go_wp2
          refine ⟨⟨A2, O + 1, D, N, rfl, hB2, hG2, hI2, hL2, by omega, J5⟩, ?_⟩
          rw [J5.ord, HXO.out]
          simp [intOf]; omega
        · obtain rfl : A2 = (AN : Int) := by rw [← hA2, if_neg hXA]
          clear hA2
          go_wp2
          refine ⟨⟨AN, O + 1, D, N, rfl, hB2, hG2, hI2, hL2, by omega, J5⟩, ?_⟩
          rw [J5.ord, HXO.out]
          simp [intOf]; omega
      · have HF : Hid (R = (l', ((AN : Int)), O)) := by
          show _ = _
          rw [← hG1.out, backGo, HX.out, if_neg (by rw [has_none hk1]; simp)]
        clear hk1 hG1 hI'
        go_wp2
        go_region
        all_goals
          have K5 := J2.step (Below.refl _ _).drew
          go_wp2
          go_ret2
          rw [HF.out]
          exact ⟨⟨n', rfl, hn', K5.box, K5.own, K5.b⟩, hA'⟩
    · have HF : Hid (R = (l', ((AN : Int)), O)) := by
        show _ = _
        have := hG.out
        rw [show (4 - O).toNat = 0 by omega] at this
        exact this.symm
      clear hG hI'
      go_wp2
      go_region
      all_goals
        have K5 := J.step (Below.refl _ _).drew
        go_wp2
        go_ret2
        rw [HF.out]
        exact ⟨⟨n', rfl, hn', K5.box, K5.own, K5.b⟩, hA'⟩

end Go.Proofs.Ytbjlbmofdnkmiaa

/-
  OWN TEXT. Contract of the code: buddy.group.
-/
namespace Go.Proofs.Ytbjlbmofdnkmiaa
open Go Go.RowKit Go.Proofs.Ytbjlbmofdnkmiaa.Kit

set_option maxHeartbeats 1000000 in
theorem group_any (w : World) (f t : Int) (fo to_ : Option Addr) (fn fc tn tc : Nat) (a : Int) (h0 : 0 ≤ f) (h1 : f ≤ a) (h2 : a ≤ 256) :
    Calls Try.prog 95 #[.agg #[.int .i64 f, .int .i64 t, .slice fo fn fc, .slice to_ tn tc], .int .i64 a] w fun e w' => e = .returned (.int .i64 ((a - f) / 8)) ∧ Below w.heap.size w w' := by
  have hb1 := below_box w (.cells #[.int .i64 f, .int .i64 t, .slice fo fn fc, .slice to_ tn tc] 44)
  obtain ⟨D, hD⟩ : ∃ D : Nat, a - f = (D : Int) := ⟨(a - f).toNat, by omega⟩
  obtain ⟨N, hq⟩ : ∃ N : Nat, (D : Int) / 8 = (N : Int) := ⟨D / 8, by omega⟩
  rw [hD, hq]
  go_enter Try.func95, Try.ntmps95
  go_wp2
  go_ret
  exact ⟨rfl, hb1⟩

end Go.Proofs.Ytbjlbmofdnkmiaa

/-
  OWN TEXT. Contract of slices.ContainsFunc over blocks, whatever the closure.
-/
namespace Go.Proofs.Ytbjlbmofdnkmiaa
open Go Go.RowKit Go.Proofs.Ytbjlbmofdnkmiaa.Kit

set_option maxHeartbeats 1000000 in
theorem bContains_any (w : World) (F : Nat) (caps : Array Value) (ao : Option Addr) (n cap : Nat) (l : List Bk) (g : Bk → Bool) (h : Blks w ao n l)
    (hcall : ∀ args W, (callFunc F args).run Try.prog W = .ok (.enter F args) W) (hc : HoldsB F caps l g w) :
    Calls Try.prog 89 #[.slice ao n cap, .func (.func F) #[] caps] w fun e w' => e = .returned (.bool (l.any g)) ∧ Below w.heap.size w w' := by
  go_enter Try.func89, Try.ntmps89
  go_wp2_with fail
  go_at_call 46
  refine (bIndex_any w F caps ao n cap l g h hcall hc).mono ?_
  rintro e w1 ⟨hf, hb⟩
  rcases hf with ⟨k, hk, rfl, hg, _⟩ | ⟨rfl, hg⟩
  · have HF : Hid (l.any g = true) := any_of_found hk hg
    clear hg hc
    go_wp2
    go_ret
    exact ⟨ret_bool HF.out.symm, hb⟩
  · have HF : Hid (l.any g = false) := any_of_none hg
    clear hg hc
    go_wp2
    go_ret
    exact ⟨ret_bool HF.out.symm, hb⟩

end Go.Proofs.Ytbjlbmofdnkmiaa

/-
  OWN TEXT. Rows that grow, and what two copies leave; over whatever program.
-/
namespace Go.Proofs.Ytbjlbmofdnkmiaa.Kit
open Go Go.RowKit

theorem row_new {w : World} {e : TypeId} {size cap : Nat} {A : Array Value} (hs : A.size = cap * size) (hm : cap ≤ maxLen) : Row (w.drew.alloc (.cells A e)) e size w.heap.size cap A.toList := by
  refine ⟨?_, by simpa using hs, hm⟩
  have := heap_alloc_new w.drew (.cells A e)
  simpa using this
theorem below_new (w : World) (o : Obj) : Below w.heap.size w (w.drew.alloc o) := ((Below.refl _ _).drew).alloc (Nat.le_refl _) o

theorem grow_some {P : Program} (w : World) (t ty e : TypeId) (i : TypeInfo) (z : Value) (size : Nat) (ht : P.underlying t = some (.slice e)) (hi : P.info? e = some i) (hz : i.zero = some z) (hsz : i.size = size) (hzs : z.cells.size = size)
    (b : Addr) (sLen sCap : Nat) (olds : List Value) (hlo : olds.length = sLen * size) (holds : ∀ j v, olds[j]? = some v → w.cell? (b.add j) = some v)
    (a : Addr) (n c : Nat) (news : List Value) (hl : news.length = n * size) (hnews : ∀ j v, news[j]? = some v → w.cell? (a.add j) = some v)
    (hg : sCap < sLen + n) (hm : sLen + n ≤ maxLen) (hby : (sLen + n) * i.bytes ≤ 140737488355328) :
    ∃ cap' W cur, (Builtin.append_ #[t, t] ty #[.slice (some b) sLen sCap, .slice (some a) n c]).run P w = .ok (.slice (some ⟨w.heap.size, 0, none⟩) (sLen + n) cap') W ∧
      Row W e size w.heap.size cap' cur ∧ cur.take ((sLen + n) * size) = olds ++ news ∧ sLen + n ≤ cap' ∧ Below w.heap.size w W := by
  subst hsz
  have h63 : ((sLen + n : Nat) : Int) ≤ 9223372036854775807 := by simp only [maxLen] at hm; omega
  have hr := run_append_grow (P := P) w t ty e i z ht hi hz b sLen sCap olds hlo holds a n c news hl hnews hg h63 (growslice_fits hg hby)
  have hc1 := grownCap_ge w (sLen + n) sCap e
  have hc2 := grownCap_le_maxLen w (sLen + n) sCap e hm
  refine ⟨_, _, _, hr, row_new ?_ hc2, ?_, hc1, below_new _ _⟩
  · simp only [Array.size_append, List.size_toArray, size_zeroCells, hlo, hl, hzs]
    rw [← Nat.add_mul, ← Nat.add_mul]
    congr 1
    omega
  · simp only [Array.toList_append]
    rw [List.take_append_of_le_length (by simp [hlo, hl, Nat.add_mul]), List.take_of_length_le (by simp [hlo, hl, Nat.add_mul])]

theorem grow_zeros {P : Program} (w : World) (t tn ty e : TypeId) (i : TypeInfo) (z : Value) (size : Nat) (kq kn : IntKind) (ht : P.underlying t = some (.slice e)) (htn : P.underlying tn = some (.int kn)) (hi : P.info? e = some i) (hz : i.zero = some z) (hsz : i.size = size) (hs0 : 0 < size) (hzs : z.cells.size = size)
    (b : Addr) (sLen sCap : Nat) (olds : List Value) (hlo : olds.length = sLen * size) (holds : ∀ j v, olds[j]? = some v → w.cell? (b.add j) = some v)
    (k : Nat) (h0 : 0 < k) (hg : sCap < sLen + k) (hm : sLen + k ≤ maxLen) (hby : (sLen + k) * i.bytes ≤ 140737488355328) :
    ∃ cap' W cur, (Builtin.append_ #[t, tn] ty #[.slice (some b) sLen sCap, .int kq k]).run P w = .ok (.slice (some ⟨w.heap.size, 0, none⟩) (sLen + k) cap') W ∧
      Row W e size w.heap.size cap' cur ∧ cur.take (sLen * size) = olds ∧ sLen + k ≤ cap' ∧ Below w.heap.size w W := by
  subst hsz
  have h63 : ((sLen + k : Nat) : Int) ≤ 9223372036854775807 := by simp only [maxLen] at hm; omega
  have hold : (Builtin.firstCells i.size sLen (.slice (some b) sLen sCap)).run P w.drew = .ok olds.toArray w.drew :=
    run_firstCells_some w.drew i.size sLen b sLen sCap olds hlo (fun j v hj => by simpa using holds j v hj)
  have h48 : k * i.bytes ≤ 281474976710656 := by have := Nat.mul_le_mul_right i.bytes (show k ≤ sLen + k by omega); omega
  have hr := Go.Lib.run_append_grow_zeros (P := P) w t tn ty e i z kq kn ht htn hi hz (some b) sLen sCap olds hold k h0 hs0 hg h63 h48 (growslice_fits hg hby)
  have hc1 := grownCap_ge w (sLen + k) sCap e
  have hc2 := grownCap_le_maxLen w (sLen + k) sCap e hm
  refine ⟨_, _, _, hr, row_new ?_ hc2, ?_, hc1, below_new _ _⟩
  · simp only [Array.size_append, List.size_toArray, size_zeroCells, hlo, hzs]
    rw [← Nat.add_mul, ← Nat.add_mul]
    congr 1
    omega
  · simp only [Array.toList_append, List.append_assoc]
    rw [List.take_append_of_le_length (by simp [hlo]), List.take_of_length_le (by simp [hlo])]

theorem splice_two_a {α : Type} {L X Y : List α} {p : Nat} (h : p + X.length + Y.length ≤ L.length) : (splice (splice L p X) (p + X.length) Y).take (p + X.length + Y.length) = L.take p ++ (X ++ Y) := by
  have e : (splice L p X).take (p + X.length) = L.take p ++ X := by
    unfold splice
    rw [← List.append_assoc, List.take_append_of_le_length (by simp; omega), List.take_of_length_le (by simp; omega)]
  show (List.take (p + X.length) (splice L p X) ++ (Y ++ _)).take _ = _
  rw [e, ← List.append_assoc, List.take_append_of_le_length (by simp; omega), List.take_of_length_le (by simp; omega), List.append_assoc]

theorem splice_two_b {α : Type} {L X Y : List α} {p : Nat} (h : p + X.length + Y.length ≤ L.length) : (splice (splice L (p + X.length) Y) p X).take (p + X.length + Y.length) = L.take p ++ (X ++ Y) := by
  have e1 : (splice L (p + X.length) Y).take p = L.take p := splice_take (by omega) (by omega)
  have e2 : (splice L (p + X.length) Y).drop (p + X.length) = Y ++ L.drop (p + X.length + Y.length) := by
    unfold splice
    rw [List.drop_append_of_le_length (by simp; omega), List.drop_of_length_le (by simp; omega), List.nil_append]
  show (List.take p (splice L (p + X.length) Y) ++ (X ++ List.drop (p + X.length) (splice L (p + X.length) Y))).take _ = _
  rw [e1, e2, ← List.append_assoc, ← List.append_assoc, List.take_append_of_le_length (by simp; omega), List.take_of_length_le (by simp; omega), List.append_assoc]

end Go.Proofs.Ytbjlbmofdnkmiaa.Kit

/-
  OWN TEXT. Contract of slices.Insert at one block.
-/
namespace Go.Proofs.Ytbjlbmofdnkmiaa
open Go Go.RowKit Go.Proofs.Ytbjlbmofdnkmiaa.Kit

/-- A list with one more at a place. -/
def insB (l : List Bk) (i : Nat) (b : Bk) : List Bk := l.take i ++ b :: l.drop i
theorem insB_vals (l : List Bk) (i : Nat) (b : Bk) : bvals (insB l i b) = bvals (l.take i) ++ ([.int .i64 b.a, .int .i64 b.o, .int .i64 b.t] ++ bvals (l.drop i)) := by
  unfold insB
  rw [bvals_append]
  rfl

/-- What is returned: a row of n blocks, the old block or a new one. -/
def RetRow (w w' : World) (base g n : Nat) (l : List Bk) (e : Ending) : Prop :=
  ∃ g' cap', e = .returned (.slice (some ⟨g', 0, none⟩) n cap') ∧ w'.ownsRow base 63 3 (.slice (some ⟨g', 0, none⟩) n cap') n (bvals l) ∧ But g w w' ∧ (g' = g ∨ w.heap.size ≤ g')

theorem ov_false (w : World) (g gv off lb cb la ca : Nat) (cur vs : List Value) (cap kA : Nat) (R : Row w 63 3 g cap cur) (hv : w.heap[gv]? = some (.cells vs.toArray 63 (0, 0))) (hk : vs.length = kA) (hne : gv ≠ g) (hc : 0 < cap) :
    (callFunc 107 #[.slice (some ⟨gv, 0, none⟩) la ca, .slice (some ⟨g, off, none⟩) lb cb]).run Try.prog w = .ok (.value (.bool false)) w := by
  have hz : ∀ w, (Go.sizeOf 63).run Try.prog w = .ok 3 w := fun w => Try.sizeOf63 w
  rw [run_callFunc_extern Try.func107 (by kernel_rfl) (by kernel_rfl) (by kernel_rfl) (e := Extern.SlicesOverlaps.overlaps #[26, 26] #[4]) (by kernel_rfl),
    Lib.run_overlaps_apart w 26 4 63 Try.underlying26 3 hz ⟨gv, 0, none⟩ ⟨g, off, none⟩ la ca lb cb hne 63 63 kA (cap * 3) (by simp [World.shape?, hv, hk]) (by simp [World.shape?, R.h, R.len]) (by omega) (by simp [World.frozen?, hv]) (by simp [World.frozen?, hv])]
  rfl

set_option maxHeartbeats 2000000 in
theorem bIns_end (w : World) (base g N cap i gv : Nat) (l : List Bk) (b : Bk) (hi : i = N) (hN : N ≤ 300) (own : w.ownsRow base 63 3 (.slice (some ⟨g, 0, none⟩) N cap) N (bvals l)) (hv : w.heap[gv]? = some (.cells #[.int .i64 b.a, .int .i64 b.o, .int .i64 b.t] 63 (0, 0))) (_hne : gv ≠ g) :
    Calls Try.prog 94 #[.slice (some ⟨g, 0, none⟩) N cap, .int .i64 i, .slice (some ⟨gv, 0, none⟩) 1 1] w fun e w' => RetRow w w' base g (N + 1) (insB l i b) e := by
  obtain ⟨i1, hj, hy0, hy1, hy2⟩ := info_parts info_block
  have hll := bowns_len own
  obtain ⟨hbg, hnc, cur, R, hcur⟩ := Row.of own
  have hm := R.m
  have hml : N + 1 ≤ maxLen := by unfold maxLen; omega
  unfold maxLen at hm
  have hRl := R.len
  have hvc : ∀ j v, ([.int .i64 b.a, .int .i64 b.o, .int .i64 b.t] : List Value)[j]? = some v → ∀ W : World, W.heap[gv]? = some (.cells #[.int .i64 b.a, .int .i64 b.o, .int .i64 b.t] 63 (0, 0)) → W.cell? ((⟨gv, 0, none⟩ : Addr).add j) = some v := by
    intro j v hjv W hW
    rw [add_at, Nat.zero_add]
    simp only [World.cell?, hW]
    simpa using hjv
  have hv1 : ∀ u ∈ ([.int .i64 b.a, .int .i64 b.o, .int .i64 b.t] : List Value), u.oneCell' = true := ints_oneCell .i64 [_, _, _]
  obtain ⟨vs, hvs⟩ : ∃ vs : List Value, [.int .i64 b.a, .int .i64 b.o, .int .i64 b.t] = vs := ⟨_, rfl⟩
  have hvl : vs.length = 3 := by rw [← hvs]; rfl
  have HVA : (#[.int .i64 b.a, .int .i64 b.o, .int .i64 b.t] : Array Value) = vs.toArray := by rw [← hvs]
  have HI : Hid (bvals (insB l i b) = bvals (l.take i) ++ (vs ++ bvals (l.drop i))) := by show _ = _; rw [insB_vals, hvs]
  rw [HVA] at hv hvc
  rw [hvs] at hvc hv1
  have HVC : Hid _ := hvc
  clear hvs HVA hvc
  have a1 : (i : Int) ≤ N := by omega
  have a2 : ((1 : Int) == 0) = false := by decide
  have a3 : (N : Int) ≤ cap := by omega
  have HE : Hid (bvals l ++ vs = bvals (insB l i b)) := by
    show _ = _
    rw [HI.out, List.take_of_length_le (by omega), List.drop_of_length_le (by omega)]
    simp [bvals]
  subst hi
  have hc1 : ∀ j v, vs[j]? = some v → w.cell? ((⟨gv, 0, none⟩ : Addr).add j) = some v := fun j v h => HVC.out j v h w hv
  by_cases hroom : i + 1 ≤ cap
  · go_enter Try.func94, Try.ntmps94
    go_wp2_with (at_builtin; refine wpList_append_fits _ rfl (.tmp 23) (.tmp 24) 26 rfl base 63 i1 3 Try.underlying26 hj hy1 g i cap (bvals l) rfl own ⟨gv, 0, none⟩ 1 1 vs rfl hvl hc1 hv1 hroom ?_; intro w1 ho1 hb1)
    all_goals
      go_ret
      exact ⟨g, cap, rfl, by rw [← HE.out]; exact ho1, ⟨hb1.os, hb1.tape, hb1.output, hb1.size, fun k hk hne => hb1.block k hk (by intro g; exact hne (by simpa using g))⟩, .inl rfl⟩
  · have hold : ∀ j v, (bvals l)[j]? = some v → w.cell? ((⟨g, 0, none⟩ : Addr).add j) = some v := own.cells rfl
    obtain ⟨cap', W, cur', hrun, R', ht, hc', hb'⟩ := grow_some (P := Try.prog) w 26 26 63 i1 _ 3 Try.underlying26 hj hy0 hy1 rfl ⟨g, 0, none⟩ i cap (bvals l) own.1 hold ⟨gv, 0, none⟩ 1 1 vs hvl hc1 (by omega) hml (by rw [hy2]; omega)
    have ow' := R'.owns (base := base) (n := i + 1) (by have := R.lt; omega) hc' ht
    have HR : Hid _ := hrun
    clear hrun
    go_enter Try.func94, Try.ntmps94
    go_wp2_with (at_builtin; refine Lib.wpList_append_run _ rfl (.tmp 23) (.tmp 24) 26 26 rfl _ _ rfl rfl _ _ HR.out ?_)
    all_goals
      go_ret
      exact ⟨w.heap.size, cap', rfl, by rw [← HE.out]; exact ow', .of_below hb', .inr (Nat.le_refl _)⟩

end Go.Proofs.Ytbjlbmofdnkmiaa

/-
  OWN TEXT. Contract of slices.Insert at one block: there is room.
-/
namespace Go.Proofs.Ytbjlbmofdnkmiaa
open Go Go.RowKit Go.Proofs.Ytbjlbmofdnkmiaa.Kit

set_option maxHeartbeats 600000 in
theorem bIns_shift (w : World) (base g N cap i gv : Nat) (l : List Bk) (b : Bk) (hi : i < N) (hN : N ≤ 300) (hroom : N + 1 ≤ cap) (own : w.ownsRow base 63 3 (.slice (some ⟨g, 0, none⟩) N cap) N (bvals l)) (hv : w.heap[gv]? = some (.cells #[.int .i64 b.a, .int .i64 b.o, .int .i64 b.t] 63 (0, 0))) (hne : gv ≠ g) :
    Calls Try.prog 94 #[.slice (some ⟨g, 0, none⟩) N cap, .int .i64 i, .slice (some ⟨gv, 0, none⟩) 1 1] w fun e w' => RetRow w w' base g (N + 1) (insB l i b) e := by
  obtain ⟨i1, hj, hy0, hy1, hy2⟩ := info_parts info_block
  have hll := bowns_len own
  obtain ⟨hbg, hnc, cur, R, hcur⟩ := Row.of own
  have hm := R.m
  have hml : N + 1 ≤ maxLen := by unfold maxLen; omega
  unfold maxLen at hm
  have hRl := R.len
  have hvc : ∀ j v, ([.int .i64 b.a, .int .i64 b.o, .int .i64 b.t] : List Value)[j]? = some v → ∀ W : World, W.heap[gv]? = some (.cells #[.int .i64 b.a, .int .i64 b.o, .int .i64 b.t] 63 (0, 0)) → W.cell? ((⟨gv, 0, none⟩ : Addr).add j) = some v := by
    intro j v hjv W hW
    rw [add_at, Nat.zero_add]
    simp only [World.cell?, hW]
    simpa using hjv
  have hv1 : ∀ u ∈ ([.int .i64 b.a, .int .i64 b.o, .int .i64 b.t] : List Value), u.oneCell' = true := ints_oneCell .i64 [_, _, _]
  obtain ⟨vs, hvs⟩ : ∃ vs : List Value, [.int .i64 b.a, .int .i64 b.o, .int .i64 b.t] = vs := ⟨_, rfl⟩
  have hvl : vs.length = 3 := by rw [← hvs]; rfl
  have HVA : (#[.int .i64 b.a, .int .i64 b.o, .int .i64 b.t] : Array Value) = vs.toArray := by rw [← hvs]
  have HI : Hid (bvals (insB l i b) = bvals (l.take i) ++ (vs ++ bvals (l.drop i))) := by show _ = _; rw [insB_vals, hvs]
  rw [HVA] at hv hvc
  rw [hvs] at hvc hv1
  have HVC : Hid _ := hvc
  clear hvs HVA hvc
  have a1 : (i : Int) ≤ N := by omega
  have a2 : ((1 : Int) == 0) = false := by decide
  have a3 : (N : Int) ≤ cap := by omega
  obtain ⟨XS, hXS⟩ : ∃ XS, XS = bvals (l.drop i) := ⟨_, rfl⟩
  have hXl : XS.length = (N - i) * 3 := by rw [hXS, length_bvals, List.length_drop, hll]
  have hX1 : ∀ u ∈ XS, u.oneCell' = true := by rw [hXS]; exact bvals_oneCell _
  have hXc : ∀ j u, XS[j]? = some u → cur[i * 3 + j]? = some u := by
    intro j u hu
    rw [hXS, ← bvals_drop, List.getElem?_drop] at hu
    rw [← hcur, List.getElem?_take] at hu
    split at hu
    · exact hu
    · cases hu
  have HI2 : Hid (bvals (insB l i b) = cur.take (i * 3) ++ (vs ++ XS)) := by
    show _ = _
    rw [HI.out, hXS, take_cut hcur (Nat.mul_le_mul_right 3 (show i ≤ N by omega)), bvals_take]
  have HXc : Hid _ := hXc
  clear hXS hXc HI hcur
  have b1 : ((i : Int) == (N : Int)) = false := by simp; omega
  have b2 : ¬ (cap = i) := by omega
  have b3 : (i : Int) ≤ (N : Int) + 1 := by omega
  have b4 : (i : Int) + 1 ≤ (N : Int) + 1 := by omega
  have b5 : ((i : Int) + 1).toNat = i + 1 := by omega
  have b6 : ((N : Int) + 1).toNat = N + 1 := by omega
  have b7 : (0 : Int) ≤ (i : Int) + 1 := by omega
  have b8 : (0 : Int) ≤ (N : Int) + 1 := by omega
  have b9 : i ≤ N := by omega
  have b10 : i ≤ cap := by omega
  have b11 : (i : Int) ≤ cap := by omega
  have bw : IntKind.i64.wrap ((i : Int) + 1) = (i : Int) + 1 := by rw [IntKind.wrap_i64]; omega
  have hov : ∀ lb cb, (callFunc 107 #[.slice (some ⟨gv, 0, none⟩) 1 1, .slice (some ⟨g, (i + 1) * 3, none⟩) lb cb]).run Try.prog w = .ok (.value (.bool false)) w := fun lb cb => ov_false w g gv _ lb cb 1 1 cur vs cap 3 R hv hvl hne (by omega)
  have b12 : ¬ (cap = i + 1) := by omega
  have b13 : ¬ ((cap : Int) < (N : Int) + 1) := by omega
  have b14 : (N : Int) + 1 ≤ (cap : Int) := by omega
  have RD := R.below (Below.refl w.heap.size w).drew
  have hv2 : w.drew.heap[gv]? = some (.cells vs.toArray 63 (0, 0)) := hv
  clear own
  go_enter Try.func94, Try.ntmps94
  go_wp2_with (simp only [hov])
  go_region_law (refine step_copy_k rfl (.tmp 73) (.tmp 76) 26 26 rfl 63 3 Try.underlying26 size_block (some ⟨g, (i + 1) * 3, none⟩) (some ⟨g, i * 3, none⟩) (N - i) (cap - (i + 1)) (N + 1 - i) (cap - i) (by simp [Act.eval, Act.put]) (by simp [Act.eval, Act.put]) g ((i + 1) * 3) cur 63 RD.h XS (N - i) (by simp only [Nat.min_def]; split <;> omega) hXl (fun _ => ⟨rfl, _, rfl, fun j v hj => by rw [add_at, RD.cell]; exact HXc.out j v hj⟩) (by omega) hX1 ?_; intro w1 hg1 hb1)
  all_goals
    have hv3 : w1.heap[gv]? = some (.cells vs.toArray 63 (0, 0)) := (hb1.block gv (Array.getElem?_eq_some_iff.1 hv2).1 hne).trans hv2
    clear hov RD
    go_wp2_with (refine wpList_copy_k rfl (.tmp 80) (.tmp 81) 26 26 rfl 63 3 Try.underlying26 size_block _ _ _ _ _ _ rfl rfl g (i * 3) (splice cur ((i + 1) * 3) XS) 63 hg1.out vs 1 (by simp only [Nat.min_def]; split <;> omega) hvl (fun _ => ⟨rfl, _, rfl, fun j v hj => HVC.out j v hj w1 hv3⟩) (by rw [length_splice _ _ _ (by omega)]; omega) hv1 ?_; intro w2 hg2 hb2)
    go_ret
    have e3 : (i + 1) * 3 = i * 3 + vs.length := by omega
    have hl2 : (splice (splice cur ((i + 1) * 3) XS) (i * 3) vs).length = cap * 3 := by rw [length_splice _ _ _ (by rw [length_splice _ _ _ (by omega)]; omega), length_splice _ _ _ (by omega)]; exact hRl
    have R2 : Row w2 63 3 g cap (splice (splice cur ((i + 1) * 3) XS) (i * 3) vs) := ⟨hg2.out, hl2, R.m⟩
    refine ⟨g, cap, rfl, R2.owns hbg hroom ?_, ((But.of_below (Below.refl _ _).drew).trans hb1).trans hb2, .inl rfl⟩
    rw [HI2.out, e3, show (N + 1) * 3 = i * 3 + vs.length + XS.length by omega]
    exact splice_two_b (by omega)

end Go.Proofs.Ytbjlbmofdnkmiaa

/-
  OWN TEXT. Contract of slices.Insert at one block: there is no room.
-/
namespace Go.Proofs.Ytbjlbmofdnkmiaa
open Go Go.RowKit Go.Proofs.Ytbjlbmofdnkmiaa.Kit

set_option maxHeartbeats 600000 in
theorem bIns_grow (w : World) (base g N cap i gv : Nat) (l : List Bk) (b : Bk) (hi : i < N) (hN : N ≤ 300) (hroom : cap = N) (own : w.ownsRow base 63 3 (.slice (some ⟨g, 0, none⟩) N cap) N (bvals l)) (hv : w.heap[gv]? = some (.cells #[.int .i64 b.a, .int .i64 b.o, .int .i64 b.t] 63 (0, 0))) (_hne : gv ≠ g) :
    Calls Try.prog 94 #[.slice (some ⟨g, 0, none⟩) N cap, .int .i64 i, .slice (some ⟨gv, 0, none⟩) 1 1] w fun e w' => RetRow w w' base g (N + 1) (insB l i b) e := by
  subst hroom
  obtain ⟨i1, hj, hy0, hy1, hy2⟩ := info_parts info_block
  have hll := bowns_len own
  obtain ⟨hbg, hnc, cur, R, hcur⟩ := Row.of own
  have hm := R.m
  have hml : cap + 1 ≤ maxLen := by unfold maxLen; omega
  unfold maxLen at hm
  have hRl := R.len
  have hvc : ∀ j v, ([.int .i64 b.a, .int .i64 b.o, .int .i64 b.t] : List Value)[j]? = some v → ∀ W : World, W.heap[gv]? = some (.cells #[.int .i64 b.a, .int .i64 b.o, .int .i64 b.t] 63 (0, 0)) → W.cell? ((⟨gv, 0, none⟩ : Addr).add j) = some v := by
    intro j v hjv W hW
    rw [add_at, Nat.zero_add]
    simp only [World.cell?, hW]
    simpa using hjv
  have hv1 : ∀ u ∈ ([.int .i64 b.a, .int .i64 b.o, .int .i64 b.t] : List Value), u.oneCell' = true := ints_oneCell .i64 [_, _, _]
  obtain ⟨vs, hvs⟩ : ∃ vs : List Value, [.int .i64 b.a, .int .i64 b.o, .int .i64 b.t] = vs := ⟨_, rfl⟩
  have hvl : vs.length = 3 := by rw [← hvs]; rfl
  have HVA : (#[.int .i64 b.a, .int .i64 b.o, .int .i64 b.t] : Array Value) = vs.toArray := by rw [← hvs]
  have HI : Hid (bvals (insB l i b) = bvals (l.take i) ++ (vs ++ bvals (l.drop i))) := by show _ = _; rw [insB_vals, hvs]
  rw [HVA] at hv hvc
  rw [hvs] at hvc hv1
  have HVC : Hid _ := hvc
  clear hvs HVA hvc
  have a1 : (i : Int) ≤ cap := by omega
  have a2 : ((1 : Int) == 0) = false := by decide
  have a3 : (cap : Int) ≤ cap := by omega
  obtain ⟨XS, hXS⟩ : ∃ XS, XS = bvals (l.drop i) := ⟨_, rfl⟩
  have hXl : XS.length = (cap - i) * 3 := by rw [hXS, length_bvals, List.length_drop, hll]
  have hX1 : ∀ u ∈ XS, u.oneCell' = true := by rw [hXS]; exact bvals_oneCell _
  have hXc : ∀ j u, XS[j]? = some u → cur[i * 3 + j]? = some u := by
    intro j u hu
    rw [hXS, ← bvals_drop, List.getElem?_drop] at hu
    rw [← hcur, List.getElem?_take] at hu
    split at hu
    · exact hu
    · cases hu
  have HI2 : Hid (bvals (insB l i b) = cur.take (i * 3) ++ (vs ++ XS)) := by
    show _ = _
    rw [HI.out, hXS, take_cut hcur (Nat.mul_le_mul_right 3 (show i ≤ cap by omega)), bvals_take]
  have HXc : Hid _ := hXc
  clear hXS hXc HI hcur
  have b1 : ((i : Int) == (cap : Int)) = false := by simp; omega
  have b2 : ¬ (cap = i) := by omega
  have b3 : (i : Int) ≤ (cap : Int) + 1 := by omega
  have b4 : (i : Int) + 1 ≤ (cap : Int) + 1 := by omega
  have b5 : ((i : Int) + 1).toNat = i + 1 := by omega
  have b6 : ((cap : Int) + 1).toNat = cap + 1 := by omega
  have b7 : (0 : Int) ≤ (i : Int) + 1 := by omega
  have b8 : (0 : Int) ≤ (cap : Int) + 1 := by omega
  have b9 : i ≤ cap := by omega
  have b10 : i ≤ cap := by omega
  have b11 : (i : Int) ≤ cap := by omega
  have bw : IntKind.i64.wrap ((i : Int) + 1) = (i : Int) + 1 := by rw [IntKind.wrap_i64]; omega
  obtain ⟨K, hK⟩ : ∃ K : Nat, (cap : Int) + 1 - i = (K : Int) := ⟨cap + 1 - i, by omega⟩
  obtain ⟨cap', W, cur', hrun, R', ht, hc', hb'⟩ := grow_zeros (P := Try.prog) w 26 3 26 63 i1 _ 3 .i64 .i64 Try.underlying26 Try.underlying3 hj hy0 hy1 (by omega) rfl ⟨g, 0, none⟩ i cap (cur.take (i * 3)) (by rw [List.length_take]; omega) (fun j v hj => by
    rw [add_at, Nat.zero_add, R.cell]
    rw [List.getElem?_take] at hj
    split at hj
    · exact hj
    · cases hj) K (by omega) (by omega) (by unfold maxLen; omega) (by rw [hy2]; omega)
  have hiK : i + K = cap + 1 := by omega
  rw [hiK] at hrun hc'
  have hcl' := R'.len
  have hg' := R.lt
  have HR : Hid _ := hrun
  have c1 : ¬ (cap' = i) := by omega
  have c2 : ¬ (cap' = i + 1) := by omega
  have c3 : (cap : Int) < (cap : Int) + 1 := by omega
  have hv3 : W.heap[gv]? = some (.cells vs.toArray 63 (0, 0)) := (hb'.block gv (Array.getElem?_eq_some_iff.1 hv).1).trans hv
  have RW := R.below hb'
  clear hrun own
  go_enter Try.func94, Try.ntmps94
  go_wp2_with (first
    | (at_builtin; refine Lib.wpList_append_run _ rfl (.tmp 34) (.tmp 39) 26 3 rfl _ _ rfl rfl _ _ HR.out ?_)
    | (refine wpList_copy_k rfl (.tmp 43) (.tmp 44) 26 26 rfl 63 3 Try.underlying26 size_block _ _ _ _ _ _ rfl rfl w.heap.size (i * 3) cur' 63 R'.h vs 1 (by simp only [Nat.min_def]; split <;> omega) hvl (fun _ => ⟨rfl, _, rfl, fun j v hj => HVC.out j v hj W hv3⟩) (by omega) hv1 ?_; intro w2 hg2 hb2))
  have RD := (RW.but hb2 (by omega)).below (Below.refl w2.heap.size w2).drew
  have hgd : w2.drew.heap[w.heap.size]? = some (.cells (splice cur' (i * 3) vs).toArray 63 (0, 0)) := hg2.out
  go_region_law (refine step_copy_k rfl (.tmp 50) (.tmp 53) 26 26 rfl 63 3 Try.underlying26 size_block (some ⟨w.heap.size, (i + 1) * 3, none⟩) (some ⟨g, i * 3, none⟩) (cap - i) (cap' - (i + 1)) (cap - i) (cap - i) (by simp [Act.eval, Act.put]) (by simp [Act.eval, Act.put]) w.heap.size ((i + 1) * 3) (splice cur' (i * 3) vs) 63 hgd XS (cap - i) (by simp only [Nat.min_def]; split <;> omega) hXl (fun _ => ⟨rfl, _, rfl, fun j v hj => by rw [add_at, RD.cell]; exact HXc.out j v hj⟩) (by rw [length_splice _ _ _ (by omega)]; omega) hX1 ?_; intro w3 hg3 hb3)
  all_goals
    clear RD
    go_wp2
    go_ret
    have e3 : (i + 1) * 3 = i * 3 + vs.length := by omega
    have hl2 : (splice (splice cur' (i * 3) vs) ((i + 1) * 3) XS).length = cap' * 3 := by rw [length_splice _ _ _ (by rw [length_splice _ _ _ (by omega)]; omega), length_splice _ _ _ (by omega)]; exact hcl'
    have R2 : Row w3 63 3 w.heap.size cap' (splice (splice cur' (i * 3) vs) ((i + 1) * 3) XS) := ⟨hg3.out, hl2, R'.m⟩
    refine ⟨w.heap.size, cap', rfl, R2.owns (by omega) hc' ?_, ?_, .inr (Nat.le_refl _)⟩
    · rw [HI2.out, e3, show (cap + 1) * 3 = i * 3 + vs.length + XS.length by omega, splice_two_a (by omega), ht]
    · have hbl : Below w.heap.size w w3 := hb'.trans ((hb2.trans ((But.of_below (Below.refl _ _).drew).trans hb3)).below (Nat.le_refl _) hb'.size)
      exact .of_below hbl

end Go.Proofs.Ytbjlbmofdnkmiaa

/-
  OWN TEXT. Contract of slices.Insert at one block: all ways.
-/
namespace Go.Proofs.Ytbjlbmofdnkmiaa
open Go Go.RowKit Go.Proofs.Ytbjlbmofdnkmiaa.Kit

theorem bIns_any (w : World) (base g N cap i gv : Nat) (l : List Bk) (b : Bk) (hi : i ≤ N) (hN : N ≤ 300) (own : w.ownsRow base 63 3 (.slice (some ⟨g, 0, none⟩) N cap) N (bvals l)) (hv : w.heap[gv]? = some (.cells #[.int .i64 b.a, .int .i64 b.o, .int .i64 b.t] 63 (0, 0))) (hne : gv ≠ g) :
    Calls Try.prog 94 #[.slice (some ⟨g, 0, none⟩) N cap, .int .i64 i, .slice (some ⟨gv, 0, none⟩) 1 1] w fun e w' => RetRow w w' base g (N + 1) (insB l i b) e := by
  have := owns_cap own
  by_cases h1 : i = N
  · exact bIns_end w base g N cap i gv l b h1 hN own hv hne
  · by_cases h2 : N + 1 ≤ cap
    · exact bIns_shift w base g N cap i gv l b (by omega) hN h2 own hv hne
    · exact bIns_grow w base g N cap i gv l b (by omega) hN (by omega) own hv hne

end Go.Proofs.Ytbjlbmofdnkmiaa

/-
  OWN TEXT. Contract of the code: buddy.put.
-/
namespace Go.Proofs.Ytbjlbmofdnkmiaa
open Go Go.RowKit Go.Proofs.Ytbjlbmofdnkmiaa.Kit

theorem shl_one (o : Int) (h : ordOk o) (W : World) : (binOp .shl 3 (.int .i64 1) (.int .i64 o)).run Try.prog W = .ok (.int .i64 (pw o)) W := by
  rcases ord_cases h with ⟨rfl, e⟩ | ⟨rfl, e⟩ | ⟨rfl, e⟩ | ⟨rfl, e⟩ | ⟨rfl, e⟩ <;> (rw [e]; rfl)

set_option maxHeartbeats 2000000 in
theorem putF1_any (W : World) (b1 b2 : Nat) (E a : Int) (ba bo bt : Int) (c1 : W.cell? ⟨b1, 0, none⟩ = some (.int .i64 E)) (c2 : W.cell? ⟨b2, 0, none⟩ = some (.int .i64 a)) (ho : ordOk bo) (h0 : 0 ≤ ba) (h1 : ba ≤ 256) :
    Calls Try.prog 90 (#[.agg #[.int .i64 ba, .int .i64 bo, .int .i64 bt]] ++ #[.pointer (some ⟨b1, 0, none⟩), .pointer (some ⟨b2, 0, none⟩)]) W fun e W' => e = .returned (.bool (ovl1 E a ⟨ba, bo, bt⟩)) ∧ Below W.heap.size W W' := by
  have hb0 := below_box W (.cells #[.int .i64 ba, .int .i64 bo, .int .i64 bt] 63)
  have d1 := keep c1 hb0
  have d2 := keep c2 hb0
  have l0 : (W.alloc (.cells #[.int .i64 ba, .int .i64 bo, .int .i64 bt] 63)).cell? ⟨W.heap.size, 0, none⟩ = some (.int .i64 ba) := by go_simp
  have l1 : (W.alloc (.cells #[.int .i64 ba, .int .i64 bo, .int .i64 bt] 63)).cell? ⟨W.heap.size, 1, none⟩ = some (.int .i64 bo) := by go_simp
  have l2 : (W.alloc (.cells #[.int .i64 ba, .int .i64 bo, .int .i64 bt] 63)).cell? ⟨W.heap.size, 2, none⟩ = some (.int .i64 bt) := by go_simp
  obtain ⟨W0, hW0⟩ : ∃ W0, W.alloc (.cells #[.int .i64 ba, .int .i64 bo, .int .i64 bt] 63) = W0 := ⟨_, rfl⟩
  rw [hW0] at hb0 d1 d2 l0 l1 l2
  have HW0 : Hid _ := hW0
  obtain ⟨T, hT⟩ : ∃ T, ba + pw bo = T := ⟨_, rfl⟩
  have HB : Hid (∀ V, Below W0.heap.size W0 V → Calls Try.prog 91 #[.agg #[.int .i64 ba, .int .i64 bo, .int .i64 bt]] V fun e w' => e = .returned (.int .i64 T) ∧ Below W0.heap.size W0 w') := fun V hS => by
    rw [← hT]
    refine (behind_any V ba bo bt ho h0 h1).mono ?_
    rintro e w' ⟨rfl, hb⟩
    exact ⟨rfl, hS.trans (hb.mono hS.size)⟩
  have S0 : Below W0.heap.size W0 W0 := Below.refl _ _
  have m1 : ∀ wx, Below W0.heap.size W0 wx → wx.cell? ⟨b1, 0, none⟩ = some (.int .i64 E) := fun wx h => keep d1 h
  have m2 : ∀ wx, Below W0.heap.size W0 wx → wx.cell? ⟨b2, 0, none⟩ = some (.int .i64 a) := fun wx h => keep d2 h
  clear c1 c2 hW0
  by_cases g1 : ba < E
  · have HF : Hid (decide (a < T) = ovl1 E a ⟨ba, bo, bt⟩) := by
      show _ = decide (_ ∧ _)
      rw [← hT]; simp [g1]
    have g1' : decide (ba < E) = true := decide_eq_true g1
    clear hT
    go_enter Try.func90, Try.ntmps90
    go_wp2_with (rw [HW0.out])
    go_region_with (first | (go_at_call 91; refine (HB.out _ ?_).mono ?_; (first | exact Below.drew S0 | assumption); rintro e w6 ⟨rfl, hS6⟩; have a0 := m1 _ hS6; have a1 := m2 _ hS6))
    all_goals
      go_wp2
      go_ret
      exact ⟨ret_bool HF.out, hb0.trans (hS6.mono hb0.size)⟩
  · have HF : Hid (false = ovl1 E a ⟨ba, bo, bt⟩) := by
      show _ = decide (_ ∧ _)
      simp [g1]
    have g1' : decide (ba < E) = false := decide_eq_false g1
    clear hT
    go_enter Try.func90, Try.ntmps90
    go_wp2_with (rw [HW0.out])
    go_region_with (first | (go_at_call 91; refine (HB.out _ ?_).mono ?_; (first | exact Below.drew S0 | assumption); rintro e w6 ⟨rfl, hS6⟩; have a0 := m1 _ hS6; have a1 := m2 _ hS6))
    all_goals
      go_wp2
      go_ret
      exact ⟨ret_bool HF.out, hb0.trans ((Below.drew S0).mono hb0.size)⟩
theorem putF1_call (args : Array Value) (W : World) : (callFunc 90 args).run Try.prog W = .ok (.enter 90 args) W := by kernel_rfl

set_option maxHeartbeats 1000000 in
theorem putF2_any (W : World) (b1 : Nat) (a : Int) (ba bo bt : Int) (c1 : W.cell? ⟨b1, 0, none⟩ = some (.int .i64 a)) :
    Calls Try.prog 93 (#[.agg #[.int .i64 ba, .int .i64 bo, .int .i64 bt]] ++ #[.pointer (some ⟨b1, 0, none⟩)]) W fun e W' => e = .returned (.bool (decide (a < ba))) ∧ Below W.heap.size W W' := by
  have hb0 := below_box W (.cells #[.int .i64 ba, .int .i64 bo, .int .i64 bt] 63)
  have d1 := keep c1 hb0
  clear c1
  go_enter Try.func93, Try.ntmps93
  go_wp2
  go_ret
  exact ⟨rfl, hb0⟩
theorem putF2_call (args : Array Value) (W : World) : (callFunc 93 args).run Try.prog W = .ok (.enter 93 args) W := by kernel_rfl

/-- The place of a new block. -/
theorem addB_at {l : List Bk} {b : Bk} {i : Nat} (hi : i ≤ l.length) (h1 : ∀ j, j < i → ¬ b.a < (l.getD j .zero).a) (h2 : i < l.length → b.a < (l.getD i .zero).a) : addB l b = insB l i b := by
  induction l generalizing i with
  | nil => obtain rfl : i = 0 := by simpa using hi
           rfl
  | cons x l ih =>
    cases i with
    | zero =>
      have : x.a > b.a := by have := h2 (by simp); simpa using this
      unfold addB
      rw [if_pos this]
      rfl
    | succ i =>
      have : ¬ x.a > b.a := by have := h1 0 (by omega); simpa using this
      unfold addB
      rw [if_neg this, ih (by simpa using hi) (fun j hj => by have := h1 (j + 1) (by omega); simpa using this) (fun hh => by have := h2 (by simpa using hh); simpa using this)]
      rfl

end Go.Proofs.Ytbjlbmofdnkmiaa

/-
  OWN TEXT. A zone behind a pointer whose two rows the call owns.
-/
namespace Go.Proofs.Ytbjlbmofdnkmiaa
open Go Go.RowKit Go.Proofs.Ytbjlbmofdnkmiaa.Kit

/-- A zone behind a pointer whose two rows the call owns. -/
structure Zo (w : World) (base zb g n cap k tn tk : Nat) (z : Zn) : Prop where
  box : ZBox w zb (.int .i64 z.f) (.int .i64 z.t) (.slice (some ⟨g, 0, none⟩) n cap) (.slice (some ⟨k, 0, none⟩) tn tk)
  own : w.ownsRow base 63 3 (.slice (some ⟨g, 0, none⟩) n cap) n (bvals z.free)
  typ : w.ownsRow base 3 1 (.slice (some ⟨k, 0, none⟩) tn tk) tn (vals z.types)
  gz : g ≠ zb
  kz : k ≠ zb
  gk : g ≠ k

theorem Zo.below {w w' : World} {base zb g n cap k tn tk : Nat} {z : Zn} (h : Zo w base zb g n cap k tn tk z) (hb : Below w.heap.size w w') : Zo w' base zb g n cap k tn tk z :=
  ⟨h.box.below hb, owns_below h.own hb (Nat.le_refl _), owns_below h.typ hb (Nat.le_refl _), h.gz, h.kz, h.gk⟩
theorem Zo.glt {w : World} {base zb g n cap k tn tk : Nat} {z : Zn} (h : Zo w base zb g n cap k tn tk z) : g < w.heap.size := (h.own.lt _ rfl).2
theorem Zo.klt {w : World} {base zb g n cap k tn tk : Nat} {z : Zn} (h : Zo w base zb g n cap k tn tk z) : k < w.heap.size := (h.typ.lt _ rfl).2

end Go.Proofs.Ytbjlbmofdnkmiaa
