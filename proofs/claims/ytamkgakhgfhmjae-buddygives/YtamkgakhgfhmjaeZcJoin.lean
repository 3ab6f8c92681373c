/-
  OWN TEXT. Contract of the code: buddy.join.
-/
import Derived.Test.YtamkgakhgfhmjaeZcSmall
import Derived.Test.YtamkgakhgfhmjaeBIdx
import Derived.Test.YtamkgakhgfhmjaeBDel
import Derived.Test.YtamkgakhgfhmjaeBu2
namespace Go.Proofs.Ytamkgakhgfhmjae
open Go Go.RowKit Go.Proofs.Ytamkgakhgfhmjae.Kit

set_option maxHeartbeats 1000000 in
theorem joinF_any (W : World) (b1 b2 : Nat) (x o : Int) (ba bo bt : Int) (c1 : W.cell? ⟨b1, 0, none⟩ = some (.int .i64 x)) (c2 : W.cell? ⟨b2, 0, none⟩ = some (.int .i64 o)) :
    Calls Try.prog 50 (#[.agg #[.int .i64 ba, .int .i64 bo, .int .i64 bt]] ++ #[.pointer (some ⟨b1, 0, none⟩), .pointer (some ⟨b2, 0, none⟩)]) W fun e W' => e = .returned (.bool (isB x o ⟨ba, bo, bt⟩)) ∧ Below W.heap.size W W' := by
  have hb0 := below_box W (.cells #[.int .i64 ba, .int .i64 bo, .int .i64 bt] 39)
  have d1 := keep c1 hb0
  have d2 := keep c2 hb0
  clear c1 c2
  by_cases g1 : ba = x
  · have HF : Hid ((bo == o) = isB x o ⟨ba, bo, bt⟩) := by
      show _ = decide (_ ∧ _)
      rw [show (bo == o) = decide (bo = o) from rfl]
      simp [g1]
    have g1' : (ba == x) = true := by simpa using g1
    clear g1
    go_enter Try.func50, Try.ntmps50
    go_wp2
    go_ret
    exact ⟨ret_bool HF.out, hb0⟩
  · have HF : Hid (false = isB x o ⟨ba, bo, bt⟩) := by
      show _ = decide (_ ∧ _)
      simp [g1]
    have g1' : (ba == x) = false := by simpa using g1
    clear g1
    go_enter Try.func50, Try.ntmps50
    go_wp2
    go_ret
    exact ⟨ret_bool HF.out, hb0⟩

theorem joinF_call (args : Array Value) (W : World) : (callFunc 50 args).run Try.prog W = .ok (.enter 50 args) W := by kernel_rfl

/-- What the loop of join knows: the zone behind the pointer, its row; the order in its box. -/
structure JnI (w : World) (base zb g cap ob : Nat) (f t : Int) (tv : Value) (l : List Bk) (n : Nat) (O : Int) (W : World) : Prop where
  b : Bu2 g zb w W
  box : ZBox W zb (.int .i64 f) (.int .i64 t) (.slice (some ⟨g, 0, none⟩) n cap) tv
  own : W.ownsRow base 39 3 (.slice (some ⟨g, 0, none⟩) n cap) n (bvals l)
  ord : W.cell? ⟨ob, 0, none⟩ = some (.int .i64 O)
  fz : W.frozen? ⟨ob, 0, none⟩ = false
theorem JnI.step {w : World} {base zb g cap ob : Nat} {f t : Int} {tv : Value} {l : List Bk} {n : Nat} {O : Int} {W W' : World} (h : JnI w base zb g cap ob f t tv l n O W) (hb : Below W.heap.size W W') : JnI w base zb g cap ob f t tv l n O W' :=
  ⟨h.b.trans (.of_below hb), h.box.below hb, owns_below h.own hb (Nat.le_refl _), keep h.ord hb, (hb.frozen (p := ⟨ob, 0, none⟩) (World.block_lt_of_cell? W _ h.ord)).trans h.fz⟩
theorem JnI.del {w : World} {base zb g cap ob : Nat} {f t : Int} {tv : Value} {l m : List Bk} {n k : Nat} {O : Int} {W W' : World} (h : JnI w base zb g cap ob f t tv l n O W) (hb : But g W W') (own : W'.ownsRow base 39 3 (.slice (some ⟨g, 0, none⟩) k cap) k (bvals m)) (hgz : g ≠ zb) (hgo : ob ≠ g) (hzo : ob ≠ zb) :
    JnI w base zb g cap ob f t tv m k O (W'.setCell ⟨zb, 2, none⟩ (.slice (some ⟨g, 0, none⟩) k cap)) := by
  have hbt : But zb W' (W'.setCell ⟨zb, 2, none⟩ (.slice (some ⟨g, 0, none⟩) k cap)) := (But.refl _ _).setCell _
  refine ⟨(h.b.trans (.of_but_g hb)).trans (.of_but_z hbt), (h.box.but hb (Ne.symm hgz)).set2 _, own_but own hbt hgz, hbt.cell (hb.cell h.ord hgo) hzo, ?_⟩
  have h1 := World.block_lt_of_cell? W _ h.ord
  have h2 := hb.block ob h1 hgo
  have h3 := hbt.block ob (Nat.lt_of_lt_of_le h1 hb.size) hzo
  exact (World.frozen?_of_block (a := ⟨ob, 0, none⟩) (h3.trans h2)).trans h.fz
theorem JnI.inc {w : World} {base zb g cap ob : Nat} {f t : Int} {tv : Value} {l : List Bk} {n : Nat} {O : Int} {W : World} (h : JnI w base zb g cap ob f t tv l n O W) (hgo : ob ≠ g) (hzo : ob ≠ zb) (ho : w.heap.size ≤ ob) (P : Int) : JnI w base zb g cap ob f t tv l n P (W.setCell ⟨ob, 0, none⟩ (.int .i64 P)) := by
  have hbt : But ob W (W.setCell ⟨ob, 0, none⟩ (.int .i64 P)) := (But.refl _ _).setCell _
  refine ⟨⟨hbt.os.trans h.b.os, hbt.tape.trans h.b.tape, hbt.output.trans h.b.output, Nat.le_trans h.b.size hbt.size, fun k hk h1 h2 => (hbt.block k (Nat.lt_of_lt_of_le hk h.b.size) (by omega)).trans (h.b.block k hk h1 h2)⟩, h.box.but hbt (Ne.symm hzo), own_but h.own hbt (Ne.symm hgo), World.cell?_setCell_same _ _ _ h.ord, by simpa using h.fz⟩

set_option maxHeartbeats 4000000 in
theorem join_any (w : World) (base zb g n cap : Nat) (f t : Int) (tv : Value) (l : List Bk) (a o : Int) (hz : newOk f t)
    (Z : ZBox w zb (.int .i64 f) (.int .i64 t) (.slice (some ⟨g, 0, none⟩) n cap) tv) (own : w.ownsRow base 39 3 (.slice (some ⟨g, 0, none⟩) n cap) n (bvals l)) (hgz : g ≠ zb) (hn : n ≤ 256)
    (hI : Inc l) (hL : ∀ b ∈ l, blkIn f t b.a b.o) (hA : blkIn f t a o) (R : List Bk × Int × Int) (hR : backGo (4 - o).toNat l a o = R) :
    Calls Try.prog 43 #[.pointer (some ⟨zb, 0, none⟩), .int .i64 a, .int .i64 o] w fun e w' => (∃ n', e = .returned (.tuple #[.int .i64 R.2.1, .int .i64 R.2.2]) ∧ n' ≤ n ∧
      ZBox w' zb (.int .i64 f) (.int .i64 t) (.slice (some ⟨g, 0, none⟩) n' cap) tv ∧ w'.ownsRow base 39 3 (.slice (some ⟨g, 0, none⟩) n' cap) n' (bvals R.1) ∧ Bu2 g zb w w') ∧ blkIn f t R.2.1 R.2.2 := by
  obtain ⟨n1, n2, n3, n4, n5⟩ := hz
  have hzl := Z.lt
  have hgl : g < w.heap.size := (own.lt _ rfl).2
  have hb0 := below_box w (.cells #[.int .i64 o] 3)
  obtain ⟨W0, hW0⟩ : ∃ W0, w.alloc (.cells #[.int .i64 o] 3) = W0 := ⟨_, rfl⟩
  have J0 : JnI w base zb g cap w.heap.size f t tv l n o W0 := by
    rw [← hW0]
    exact ⟨.of_below hb0, Z.below hb0, owns_below own hb0 (Nat.le_refl _), by simp, by simp⟩
  have HR : Hid (backGo (4 - o).toNat l a o = R) := hR
  have HW0 : Hid _ := hW0
  have go1 : w.heap.size ≠ g := by omega
  have go2 : w.heap.size ≠ zb := by omega
  clear hW0 hb0 Z own hR
  go_enter Try.func43, Try.ntmps43
  go_wp2_with (rw [HW0.out])
  clear HW0
  go_loopw [1] (fun av W => ∃ (A O : Int) (l' : List Bk) (n' : Nat), av = .int .i64 A ∧ blkIn f t A O ∧ Hid (backGo (4 - O).toNat l' A O = R) ∧ Hid (Inc l') ∧ (∀ b ∈ l', blkIn f t b.a b.o) ∧ n' ≤ n ∧ JnI w base zb g cap w.heap.size f t tv l' n' O W) (fun _ W => (4 - intOf ((W.cell? ⟨w.heap.size, 0, none⟩).getD undef)).toNat)
  case atStart => exact ⟨a, o, l, n, rfl, hA, HR, hI, hL, Nat.le_refl _, J0⟩
  case round =>
    obtain ⟨A, O, l', n', rfl, hA', hG, hI', hL', hn', J⟩ := hrel
    clear J0 HR hI hL hA
    obtain ⟨⟨o0, o4⟩, a1, a2, a3⟩ := id hA'
    obtain ⟨AN, rfl⟩ : ∃ AN : Nat, A = AN := ⟨A.toNat, by omega⟩
    have x2 := J.box.c2
    have z2 := J.box.z2
    have xo := J.ord
    have fo := J.fz
    have hsr := J.b.size
    have HXO : Hid (wr.cell? ⟨w.heap.size, 0, none⟩ = some (.int .i64 O)) := J.ord
    by_cases hO : O < 4
    · obtain ⟨X, hX⟩ : ∃ X, besideA (AN : Int) O = X := ⟨_, rfl⟩
      have HC := beside_any wr AN O ⟨o0, o4⟩ hO (by omega) a3
      rw [hX] at HC
      have HX : Hid (besideA (AN : Int) O = X) := hX
      obtain ⟨m, hm⟩ : ∃ m : Nat, (4 - O).toNat = m + 1 := ⟨(4 - O).toNat - 1, by omega⟩
      have hm2 : (4 - (O + 1)).toNat = m := by omega
      have hG1 : Hid (backGo (m + 1) l' (AN : Int) O = R) := by have := hG.out; rw [hm] at this; exact this
      clear hX hG
      go_wp2_with fail
      go_at_call 49
      refine HC.mono ?_
      rintro e w' ⟨rfl, rfl⟩
      clear HC
      have hbx := below_box wr (.cells #[.int .i64 X] 3)
      have J1 := J.step hbx
      have q1 : (wr.alloc (.cells #[.int .i64 X] 3)).cell? ⟨wr.heap.size, 0, none⟩ = some (.int .i64 X) := by simp
      obtain ⟨W1, hW1⟩ : ∃ W1, wr.alloc (.cells #[.int .i64 X] 3) = W1 := ⟨_, rfl⟩
      rw [hW1] at J1 q1
      have HW1 : Hid _ := hW1
      have y2 := J1.box.c2
      have yo := J1.ord
      have hlen := bowns_len J1.own
      have hHold : HoldsB 50 #[.pointer (some ⟨wr.heap.size, 0, none⟩), .pointer (some ⟨w.heap.size, 0, none⟩)] l' (isB X O) W1 := fun i hi W hb => joinF_any W _ _ X O _ _ _ (keep q1 hb) (keep yo hb)
      have HIx := bIndex_any W1 50 #[.pointer (some ⟨wr.heap.size, 0, none⟩), .pointer (some ⟨w.heap.size, 0, none⟩)] (some ⟨g, 0, none⟩) n' cap l' (isB X O) (blks_own J1.own (by omega)) joinF_call hHold
      clear hHold hW1 hbx J x2 z2 xo fo
      go_wp2_with (first | (rw [HW1.out]) | fail)
      go_at_call 44
      refine HIx.mono ?_
      rintro e W2 ⟨hf, hb2⟩
      have J2 := J1.step hb2
      have q2 := keep q1 hb2
      clear HIx J1 q1 y2 yo hb2 HW1
      have y2 := J2.box.c2
      have z2 := J2.box.z2
      have yo := J2.ord
      have fo := J2.fz
      rcases hf with ⟨k, hk, rfl, hk1, hk2⟩ | ⟨rfl, hk1⟩
      · obtain ⟨N, rfl⟩ : ∃ N, n' = N + 1 := ⟨n' - 1, by omega⟩
        have HD := bDel_any W2 base g N cap k l' (by omega) (by omega) J2.own
        have HE : Hid (l'.eraseIdx k = dropB l' X O) := erase_eq hI'.out hk hk1
        have hh : hasB l' X O = true := has_of hk hk1
        rw [HE.out] at HD
        obtain ⟨A2, hA2⟩ : ∃ A2, (if X < (AN : Int) then X else (AN : Int)) = A2 := ⟨_, rfl⟩
        have hG2 : Hid (backGo (4 - (O + 1)).toNat (dropB l' X O) A2 (O + 1) = R) := by
          show _ = _
          rw [hm2, ← hG1.out, backGo, HX.out, if_pos hh, hA2]
        have hB2 : blkIn f t A2 (O + 1) := by
          have h1 := join_in hA' (by rw [HX.out]; exact hasB_in hh hL') hO
          rw [HX.out, hA2] at h1
          exact h1
        have hL2 : ∀ b ∈ dropB l' X O, blkIn f t b.a b.o := fun b hb => hL' b (dropB_mem hb)
        have hI2 : Hid (Inc (dropB l' X O)) := hI'.out.drop X O
        obtain ⟨D, hD⟩ : ∃ D, dropB l' X O = D := ⟨_, rfl⟩
        rw [hD] at hG2 hL2 hI2 HD
        clear hk1 hk2 HE hh hG1 hI' hL' hD
        go_wp2_with fail
        go_at_call 51
        refine HD.mono ?_
        rintro e W3 ⟨rfl, own3, hb3⟩
        have J3 := J2.del hb3 own3 hgz go1 go2
        have q3 := hb3.cell q2 (by omega)
        have o3 := hb3.cell J2.ord go1
        have B3 := J2.box.but hb3 (Ne.symm hgz)
        have u2 := B3.c2
        have v2 := B3.z2
        have f3 : W3.frozen? ⟨w.heap.size, 0, none⟩ = false := by
          have h2 := hb3.block w.heap.size (World.block_lt_of_cell? W2 _ J2.ord) go1
          exact (World.frozen?_of_block (a := ⟨w.heap.size, 0, none⟩) h2).trans J2.fz
        have J5 := J3.inc go1 go2 (Nat.le_refl _) (O + 1)
        have gw : ¬ (wr.heap.size = zb) := by omega
        have gw2 : ¬ (w.heap.size = zb) := go2
        have gz1 : ¬ (zb = w.heap.size) := by omega
        have gz2 : ¬ (zb = wr.heap.size) := by omega
        clear HD J2 J3 B3 y2 z2 yo fo q2 hb3 own3
        by_cases hXA : X < (AN : Int)
        · obtain rfl : A2 = X := by rw [← hA2, if_pos hXA]
          clear hA2
          go_wp2
          refine ⟨⟨A2, O + 1, D, N, rfl, hB2, hG2, hI2, hL2, by omega, J5⟩, ?_⟩
          rw [J5.ord, HXO.out]
          simp [intOf]; omega
        · obtain rfl : A2 = (AN : Int) := by rw [← hA2, if_neg hXA]
          clear hA2
          go_wp2
          refine ⟨⟨AN, O + 1, D, N, rfl, hB2, hG2, hI2, hL2, by omega, J5⟩, ?_⟩
          rw [J5.ord, HXO.out]
          simp [intOf]; omega
      · have HF : Hid (R = (l', ((AN : Int)), O)) := by
          show _ = _
          rw [← hG1.out, backGo, HX.out, if_neg (by rw [has_none hk1]; simp)]
        clear hk1 hG1 hI'
        go_wp2
        go_region
        all_goals
          have K5 := J2.step (Below.refl _ _).drew
          go_wp2
          go_ret2
          rw [HF.out]
          exact ⟨⟨n', rfl, hn', K5.box, K5.own, K5.b⟩, hA'⟩
    · have HF : Hid (R = (l', ((AN : Int)), O)) := by
        show _ = _
        have := hG.out
        rw [show (4 - O).toNat = 0 by omega] at this
        exact this.symm
      clear hG hI'
      go_wp2
      go_region
      all_goals
        have K5 := J.step (Below.refl _ _).drew
        go_wp2
        go_ret2
        rw [HF.out]
        exact ⟨⟨n', rfl, hn', K5.box, K5.own, K5.b⟩, hA'⟩

end Go.Proofs.Ytamkgakhgfhmjae
