/-
  OWN TEXTS.
-/
import Derived.Test.YtjohdbiipeedkaaGreatDoorPart6
set_option maxRecDepth 10000
set_option maxHeartbeats 4000000
namespace Go.Proofs.YtjohdbiipeedkaaGreatDoor
open Go Go.RowKit Go.Proofs.YtjohdbiipeedkaaGreatDoor.Kit
def HoldsB (F : Nat) (caps : Array Value) (l : List Bk) (g : Bk → Bool) (w : World) : Prop :=
 ∀ (i : Nat), i < l.length → ∀ W : World, Below w.heap.size w W → Calls Tryz.prog F (#[Value.agg #[.int .i64 (l.getD i .zero).a, .int .i64 (l.getD i .zero).o, .int .i64 (l.getD i .zero).t]] ++ caps) W fun e W' => e = .returned (.bool (g (l.getD i .zero))) ∧ Below W.heap.size W W'
def FoundAt (e : Ending) (l : List Bk) (g : Bk → Bool) : Prop :=
 (∃ k : Nat, k < l.length ∧ e = .returned (.int .i64 (k : Int)) ∧ g (l.getD k .zero) = true ∧ ∀ j, j < k → g (l.getD j .zero) = false) ∨ (e = .returned (.int .i64 (-1)) ∧ ∀ j, j < l.length → g (l.getD j .zero) = false)
theorem bIndex_any (w : World) (F : Nat) (caps : Array Value) (ao : Option Addr) (n cap : Nat) (l : List Bk) (g : Bk → Bool) (h : Blks w ao n l)
    (hcall : ∀ args W, (callFunc F args).run Tryz.prog W = .ok (.enter F args) W) (hc : HoldsB F caps l g w) :
    Calls Tryz.prog 39 #[.slice ao n cap, .func (.func F) #[] caps] w fun e w' => FoundAt e l g ∧ Below w.heap.size w w' := by
 have hlen := h.len
 have hrch := h.reach
 go_enter Tryz.func39, Tryz.ntmps39
 go_wp2
 go_loopw [8] (fun i wr => ∃ k : Nat, k ≤ n ∧ i = .int .i64 k ∧ Hid (∀ j, j < k → g (l.getD j .zero) = false) ∧ Below w.heap.size w wr) (fun i _ => n - (intOf i).toNat)
 case atStart => exact ⟨0, Nat.zero_le _, rfl, (fun j hj => absurd hj (Nat.not_lt_zero j)), Below.refl _ _⟩
 case round =>
  obtain ⟨k, hk, rfl, hN, hb⟩ := hrel
  by_cases hlt : k < n
  ·obtain ⟨b, o, rfl, c0, c1, c2⟩ := h.at_ k (by omega)
   have hc1 := hc k (by omega) wr hb
   obtain ⟨r, hr⟩ : ∃ r, l.getD k .zero = r := ⟨_, rfl⟩
   have HR : Hid (l.getD k .zero = r) := hr
   rw [hr] at c0 c1 c2 hc1
   clear hr
   obtain ⟨x, y, u⟩ := r
   dsimp only at c0 c1 c2 hc1
   have d0 := keep c0 hb
   have d1 := keep c1 hb
   have d2 := keep c2 hb
   clear c0 c1 c2
   go_wp2_with fail
   refine hc1.mono ?_
   rintro e w1 ⟨rfl, hb1⟩
   have hB := hb.trans (hb1.mono hb.size)
   clear hc1 d0 d1 d2 hc
   cases hg : g ⟨x, y, u⟩ with
   | true =>
    have HT : Hid (g (l.getD k .zero) = true) := by show _ = _; rw [HR.out]; exact hg
    clear hg
    go_wp2
    go_ret
    exact ⟨.inl ⟨k, by omega, rfl, HT.out, hN.out⟩, hB⟩
   | false =>
    have HF : Hid (∀ j, j < k + 1 → g (l.getD j .zero) = false) := fun j hj => by
     by_cases e : j = k
     ·rw [e, HR.out]; exact hg
     exact hN.out j (by omega)
    clear hg hN
    go_wp2
    go_roundw
    case rel => exact ⟨k + 1, by omega, by go_num, HF, hB⟩
    case measure => simp [intOf]; omega
  have HF : Hid (∀ j, j < l.length → g (l.getD j .zero) = false) := fun j hj => hN.out j (by omega)
  clear hN hc
  go_wp2
  go_ret
  exact ⟨.inr ⟨rfl, HF.out⟩, hb⟩
theorem any_of_found {l : List Bk} {g : Bk → Bool} {k : Nat} (hk : k < l.length) (h : g (l.getD k .zero) = true) : l.any g = true := by
 rw [List.any_eq_true]
 exact ⟨l[k], List.getElem_mem _, by rw [List.getD_eq_getElem?_getD, List.getElem?_eq_getElem hk] at h; exact h⟩
theorem any_of_none {l : List Bk} {g : Bk → Bool} (h : ∀ j, j < l.length → g (l.getD j .zero) = false) : l.any g = false := by
 rw [List.any_eq_false]
 intro x hx
 obtain ⟨i, hi, rfl⟩ := List.getElem_of_mem hx
 have := h i hi
 rw [List.getD_eq_getElem?_getD, List.getElem?_eq_getElem hi] at this
 simp only [Option.getD_some] at this
 simp [this]
theorem joinF_any (W : World) (b1 b2 : Nat) (x o : Int) (ba bo bt : Int) (c1 : W.cell? ⟨b1, 0, none⟩ = some (.int .i64 x)) (c2 : W.cell? ⟨b2, 0, none⟩ = some (.int .i64 o)) :
    Calls Tryz.prog 122 (#[.agg #[.int .i64 ba, .int .i64 bo, .int .i64 bt]] ++ #[.pointer (some ⟨b1, 0, none⟩), .pointer (some ⟨b2, 0, none⟩)]) W fun e W' => e = .returned (.bool (isB x o ⟨ba, bo, bt⟩)) ∧ Below W.heap.size W W' := by
 have hb0 := below_box W (.cells #[.int .i64 ba, .int .i64 bo, .int .i64 bt] 40)
 have d1 := keep c1 hb0
 have d2 := keep c2 hb0
 clear c1 c2
 by_cases g1 : ba = x
 ·have HF : Hid ((bo == o) = isB x o ⟨ba, bo, bt⟩) := by
   show _ = decide (_ ∧ _)
   rw [show (bo == o) = decide (bo = o) from rfl]
   simp [g1]
  have g1' : (ba == x) = true := by simpa using g1
  clear g1
  go_enter Tryz.func122, Tryz.ntmps122
  go_wp2
  go_ret
  exact ⟨ret_bool HF.out, hb0⟩
 have HF : Hid (false = isB x o ⟨ba, bo, bt⟩) := by
  show _ = decide (_ ∧ _)
  simp [g1]
 have g1' : (ba == x) = false := by simpa using g1
 clear g1
 go_enter Tryz.func122, Tryz.ntmps122
 go_wp2
 go_ret
 exact ⟨ret_bool HF.out, hb0⟩
theorem joinF_call (args : Array Value) (W : World) : (callFunc 122 args).run Tryz.prog W = .ok (.enter 122 args) W := by kernel_rfl
structure JnI (w : World) (base zb g cap ob : Nat) (f t : Int) (tv : Value) (l : List Bk) (n : Nat) (O : Int) (W : World) : Prop where
 b : Bu2 g zb w W
 box : ZBox W zb (.int .i64 f) (.int .i64 t) (.slice (some ⟨g, 0, none⟩) n cap) tv
 own : W.ownsRow base 40 3 (.slice (some ⟨g, 0, none⟩) n cap) n (bvals l)
 ord : W.cell? ⟨ob, 0, none⟩ = some (.int .i64 O)
 fz : W.frozen? ⟨ob, 0, none⟩ = false
theorem JnI.step {w : World} {base zb g cap ob : Nat} {f t : Int} {tv : Value} {l : List Bk} {n : Nat} {O : Int} {W W' : World} (h : JnI w base zb g cap ob f t tv l n O W) (hb : Below W.heap.size W W') : JnI w base zb g cap ob f t tv l n O W' :=
 ⟨h.b.trans (.of_below hb), h.box.below hb, owns_below h.own hb (Nat.le_refl _), keep h.ord hb, (hb.frozen (p := ⟨ob, 0, none⟩) (World.block_lt_of_cell? W _ h.ord)).trans h.fz⟩
theorem JnI.del {w : World} {base zb g cap ob : Nat} {f t : Int} {tv : Value} {l m : List Bk} {n k : Nat} {O : Int} {W W' : World} (h : JnI w base zb g cap ob f t tv l n O W) (hb : But g W W') (own : W'.ownsRow base 40 3 (.slice (some ⟨g, 0, none⟩) k cap) k (bvals m)) (hgz : g ≠ zb) (hgo : ob ≠ g) (hzo : ob ≠ zb) :
    JnI w base zb g cap ob f t tv m k O (W'.setCell ⟨zb, 2, none⟩ (.slice (some ⟨g, 0, none⟩) k cap)) := by
 have hbt : But zb W' (W'.setCell ⟨zb, 2, none⟩ (.slice (some ⟨g, 0, none⟩) k cap)) := (But.refl _ _).setCell _
 refine ⟨(h.b.trans (.of_but_g hb)).trans (.of_but_z hbt), (h.box.but hb (Ne.symm hgz)).set2 _, own_but own hbt hgz, hbt.cell (hb.cell h.ord hgo) hzo, ?_⟩
 have h1 := World.block_lt_of_cell? W _ h.ord
 have h2 := hb.block ob h1 hgo
 have h3 := hbt.block ob (Nat.lt_of_lt_of_le h1 hb.size) hzo
 exact (World.frozen?_of_block (a := ⟨ob, 0, none⟩) (h3.trans h2)).trans h.fz
theorem JnI.inc {w : World} {base zb g cap ob : Nat} {f t : Int} {tv : Value} {l : List Bk} {n : Nat} {O : Int} {W : World} (h : JnI w base zb g cap ob f t tv l n O W) (hgo : ob ≠ g) (hzo : ob ≠ zb) (ho : w.heap.size ≤ ob) (P : Int) : JnI w base zb g cap ob f t tv l n P (W.setCell ⟨ob, 0, none⟩ (.int .i64 P)) := by
 have hbt : But ob W (W.setCell ⟨ob, 0, none⟩ (.int .i64 P)) := (But.refl _ _).setCell _
 refine ⟨⟨hbt.os.trans h.b.os, hbt.tape.trans h.b.tape, hbt.output.trans h.b.output, Nat.le_trans h.b.size hbt.size, fun k hk h1 h2 => (hbt.block k (Nat.lt_of_lt_of_le hk h.b.size) (by omega)).trans (h.b.block k hk h1 h2)⟩, h.box.but hbt (Ne.symm hzo), own_but h.own hbt (Ne.symm hgo), World.cell?_setCell_same _ _ _ h.ord, by simpa using h.fz⟩
theorem join_any (w : World) (base zb g n cap : Nat) (f t : Int) (tv : Value) (l : List Bk) (a o : Int) (hz : newOk f t)
    (Z : ZBox w zb (.int .i64 f) (.int .i64 t) (.slice (some ⟨g, 0, none⟩) n cap) tv) (own : w.ownsRow base 40 3 (.slice (some ⟨g, 0, none⟩) n cap) n (bvals l)) (hgz : g ≠ zb) (hn : n ≤ 256)
    (hI : Inc l) (hL : ∀ b ∈ l, blkIn f t b.a b.o) (hA : blkIn f t a o) (R : List Bk × Int × Int) (hR : backGo (4 - o).toNat l a o = R) :
    Calls Tryz.prog 114 #[.pointer (some ⟨zb, 0, none⟩), .int .i64 a, .int .i64 o] w fun e w' => (∃ n', e = .returned (.tuple #[.int .i64 R.2.1, .int .i64 R.2.2]) ∧ n' ≤ n ∧
     ZBox w' zb (.int .i64 f) (.int .i64 t) (.slice (some ⟨g, 0, none⟩) n' cap) tv ∧ w'.ownsRow base 40 3 (.slice (some ⟨g, 0, none⟩) n' cap) n' (bvals R.1) ∧ Bu2 g zb w w') ∧ blkIn f t R.2.1 R.2.2 := by
 obtain ⟨n1, n2, n3, n4, n5⟩ := hz
 have hzl := Z.lt
 have hgl : g < w.heap.size := (own.lt _ rfl).2
 have hb0 := below_box w (.cells #[.int .i64 o] 3)
 obtain ⟨W0, hW0⟩ : ∃ W0, w.alloc (.cells #[.int .i64 o] 3) = W0 := ⟨_, rfl⟩
 have J0 : JnI w base zb g cap w.heap.size f t tv l n o W0 := by
  rw [← hW0]
  exact ⟨.of_below hb0, Z.below hb0, owns_below own hb0 (Nat.le_refl _), by simp, by simp⟩
 have HR : Hid (backGo (4 - o).toNat l a o = R) := hR
 have HW0 : Hid _ := hW0
 have go1 : w.heap.size ≠ g := by omega
 have go2 : w.heap.size ≠ zb := by omega
 clear hW0 hb0 Z own hR
 go_enter Tryz.func114, Tryz.ntmps114
 go_wp2_with (rw [HW0.out])
 clear HW0
 go_loopw [1] (fun av W => ∃ (A O : Int) (l' : List Bk) (n' : Nat), av = .int .i64 A ∧ blkIn f t A O ∧ Hid (backGo (4 - O).toNat l' A O = R) ∧ Hid (Inc l') ∧ (∀ b ∈ l', blkIn f t b.a b.o) ∧ n' ≤ n ∧ JnI w base zb g cap w.heap.size f t tv l' n' O W) (fun _ W => (4 - intOf ((W.cell? ⟨w.heap.size, 0, none⟩).getD undef)).toNat)
 case atStart => exact ⟨a, o, l, n, rfl, hA, HR, hI, hL, Nat.le_refl _, J0⟩
 case round =>
  obtain ⟨A, O, l', n', rfl, hA', hG, hI', hL', hn', J⟩ := hrel
  clear J0 HR hI hL hA
  obtain ⟨⟨o0, o4⟩, a1, a2, a3⟩ := id hA'
  obtain ⟨AN, rfl⟩ : ∃ AN : Nat, A = AN := ⟨A.toNat, by omega⟩
  have x2 := J.box.c2
  have z2 := J.box.z2
  have xo := J.ord
  have fo := J.fz
  have hsr := J.b.size
  have HXO : Hid (wr.cell? ⟨w.heap.size, 0, none⟩ = some (.int .i64 O)) := J.ord
  by_cases hO : O < 4
  ·obtain ⟨X, hX⟩ : ∃ X, besideA (AN : Int) O = X := ⟨_, rfl⟩
   have HC := beside_any wr AN O ⟨o0, o4⟩ hO (by omega) a3
   rw [hX] at HC
   have HX : Hid (besideA (AN : Int) O = X) := hX
   obtain ⟨m, hm⟩ : ∃ m : Nat, (4 - O).toNat = m + 1 := ⟨(4 - O).toNat - 1, by omega⟩
   have hm2 : (4 - (O + 1)).toNat = m := by omega
   have hG1 : Hid (backGo (m + 1) l' (AN : Int) O = R) := by have := hG.out; rw [hm] at this; exact this
   clear hX hG
   go_wp2_with fail
   go_at_call 112
   refine HC.mono ?_
   rintro e w' ⟨rfl, rfl⟩
   clear HC
   have hbx := below_box wr (.cells #[.int .i64 X] 3)
   have J1 := J.step hbx
   have q1 : (wr.alloc (.cells #[.int .i64 X] 3)).cell? ⟨wr.heap.size, 0, none⟩ = some (.int .i64 X) := by simp
   obtain ⟨W1, hW1⟩ : ∃ W1, wr.alloc (.cells #[.int .i64 X] 3) = W1 := ⟨_, rfl⟩
   rw [hW1] at J1 q1
   have HW1 : Hid _ := hW1
   have y2 := J1.box.c2
   have yo := J1.ord
   have hlen := bowns_len J1.own
   have hHold : HoldsB 122 #[.pointer (some ⟨wr.heap.size, 0, none⟩), .pointer (some ⟨w.heap.size, 0, none⟩)] l' (isB X O) W1 := fun i hi W hb => joinF_any W _ _ X O _ _ _ (keep q1 hb) (keep yo hb)
   have HIx := bIndex_any W1 122 #[.pointer (some ⟨wr.heap.size, 0, none⟩), .pointer (some ⟨w.heap.size, 0, none⟩)] (some ⟨g, 0, none⟩) n' cap l' (isB X O) (blks_own J1.own (by omega)) joinF_call hHold
   clear hHold hW1 hbx J x2 z2 xo fo
   go_wp2_with (first | (rw [HW1.out]) | fail)
   go_at_call 39
   refine HIx.mono ?_
   rintro e W2 ⟨hf, hb2⟩
   have J2 := J1.step hb2
   have q2 := keep q1 hb2
   clear HIx J1 q1 y2 yo hb2 HW1
   have y2 := J2.box.c2
   have z2 := J2.box.z2
   have yo := J2.ord
   have fo := J2.fz
   rcases hf with ⟨k, hk, rfl, hk1, hk2⟩ | ⟨rfl, hk1⟩
   ·obtain ⟨N, rfl⟩ : ∃ N, n' = N + 1 := ⟨n' - 1, by omega⟩
    have HD := bDel_any W2 base g N cap k l' (by omega) (by omega) J2.own
    have HE : Hid (l'.eraseIdx k = dropB l' X O) := erase_eq hI'.out hk hk1
    have hh : hasB l' X O = true := has_of hk hk1
    rw [HE.out] at HD
    obtain ⟨A2, hA2⟩ : ∃ A2, (if X < (AN : Int) then X else (AN : Int)) = A2 := ⟨_, rfl⟩
    have hG2 : Hid (backGo (4 - (O + 1)).toNat (dropB l' X O) A2 (O + 1) = R) := by
     show _ = _
     rw [hm2, ← hG1.out, backGo, HX.out, if_pos hh, hA2]
    have hB2 : blkIn f t A2 (O + 1) := by
     have h1 := join_in hA' (by rw [HX.out]; exact hasB_in hh hL') hO
     rw [HX.out, hA2] at h1
     exact h1
    have hL2 : ∀ b ∈ dropB l' X O, blkIn f t b.a b.o := fun b hb => hL' b (dropB_mem hb)
    have hI2 : Hid (Inc (dropB l' X O)) := hI'.out.drop X O
    obtain ⟨D, hD⟩ : ∃ D, dropB l' X O = D := ⟨_, rfl⟩
    rw [hD] at hG2 hL2 hI2 HD
    clear hk1 hk2 HE hh hG1 hI' hL' hD
    go_wp2_with fail
    go_at_call 30
    refine HD.mono ?_
    rintro e W3 ⟨rfl, own3, hb3⟩
    have J3 := J2.del hb3 own3 hgz go1 go2
    have q3 := hb3.cell q2 (by omega)
    have o3 := hb3.cell J2.ord go1
    have B3 := J2.box.but hb3 (Ne.symm hgz)
    have u2 := B3.c2
    have v2 := B3.z2
    have f3 : W3.frozen? ⟨w.heap.size, 0, none⟩ = false := by
     have h2 := hb3.block w.heap.size (World.block_lt_of_cell? W2 _ J2.ord) go1
     exact (World.frozen?_of_block (a := ⟨w.heap.size, 0, none⟩) h2).trans J2.fz
    have J5 := J3.inc go1 go2 (Nat.le_refl _) (O + 1)
    have gw : ¬ (wr.heap.size = zb) := by omega
    have gw2 : ¬ (w.heap.size = zb) := go2
    have gz1 : ¬ (zb = w.heap.size) := by omega
    have gz2 : ¬ (zb = wr.heap.size) := by omega
    clear HD J2 J3 B3 y2 z2 yo fo q2 hb3 own3
    by_cases hXA : X < (AN : Int)
    ·obtain rfl : A2 = X := by rw [← hA2, if_pos hXA]
     clear hA2
     go_wp2
     refine ⟨⟨A2, O + 1, D, N, rfl, hB2, hG2, hI2, hL2, by omega, J5⟩, ?_⟩
     rw [J5.ord, HXO.out]
     simp [intOf]; omega
    obtain rfl : A2 = (AN : Int) := by rw [← hA2, if_neg hXA]
    clear hA2
    go_wp2
    refine ⟨⟨AN, O + 1, D, N, rfl, hB2, hG2, hI2, hL2, by omega, J5⟩, ?_⟩
    rw [J5.ord, HXO.out]
    simp [intOf]; omega
   have HF : Hid (R = (l', ((AN : Int)), O)) := by
    show _ = _
    rw [← hG1.out, backGo, HX.out, if_neg (by rw [has_none hk1]; simp)]
   clear hk1 hG1 hI'
   go_wp2
   go_region
   all_goals
    have K5 := J2.step (Below.refl _ _).drew
    go_wp2
    go_ret2
    rw [HF.out]
    exact ⟨⟨n', rfl, hn', K5.box, K5.own, K5.b⟩, hA'⟩
  have HF : Hid (R = (l', ((AN : Int)), O)) := by
   show _ = _
   have := hG.out
   rw [show (4 - O).toNat = 0 by omega] at this
   exact this.symm
  clear hG hI'
  go_wp2
  go_region
  all_goals
   have K5 := J.step (Below.refl _ _).drew
   go_wp2
   go_ret2
   rw [HF.out]
   exact ⟨⟨n', rfl, hn', K5.box, K5.own, K5.b⟩, hA'⟩
theorem group_any (w : World) (f t : Int) (fo to_ : Option Addr) (fn fc tn tc : Nat) (a : Int) (h0 : 0 ≤ f) (h1 : f ≤ a) (h2 : a ≤ 256) :
    Calls Tryz.prog 102 #[.agg #[.int .i64 f, .int .i64 t, .slice fo fn fc, .slice to_ tn tc], .int .i64 a] w fun e w' => e = .returned (.int .i64 ((a - f) / 8)) ∧ Below w.heap.size w w' := by
 have hb1 := below_box w (.cells #[.int .i64 f, .int .i64 t, .slice fo fn fc, .slice to_ tn tc] 54)
 obtain ⟨D, hD⟩ : ∃ D : Nat, a - f = (D : Int) := ⟨(a - f).toNat, by omega⟩
 obtain ⟨N, hq⟩ : ∃ N : Nat, (D : Int) / 8 = (N : Int) := ⟨D / 8, by omega⟩
 rw [hD, hq]
 go_enter Tryz.func102, Tryz.ntmps102
 go_wp2
 go_ret
 exact ⟨rfl, hb1⟩
theorem bContains_any (w : World) (F : Nat) (caps : Array Value) (ao : Option Addr) (n cap : Nat) (l : List Bk) (g : Bk → Bool) (h : Blks w ao n l)
    (hcall : ∀ args W, (callFunc F args).run Tryz.prog W = .ok (.enter F args) W) (hc : HoldsB F caps l g w) :
    Calls Tryz.prog 23 #[.slice ao n cap, .func (.func F) #[] caps] w fun e w' => e = .returned (.bool (l.any g)) ∧ Below w.heap.size w w' := by
 go_enter Tryz.func23, Tryz.ntmps23
 go_wp2_with fail
 go_at_call 39
 refine (bIndex_any w F caps ao n cap l g h hcall hc).mono ?_
 rintro e w1 ⟨hf, hb⟩
 rcases hf with ⟨k, hk, rfl, hg, _⟩ | ⟨rfl, hg⟩
 ·have HF : Hid (l.any g = true) := any_of_found hk hg
  clear hg hc
  go_wp2
  go_ret
  exact ⟨ret_bool HF.out.symm, hb⟩
 have HF : Hid (l.any g = false) := any_of_none hg
 clear hg hc
 go_wp2
 go_ret
 exact ⟨ret_bool HF.out.symm, hb⟩
def insB (l : List Bk) (i : Nat) (b : Bk) : List Bk := l.take i ++ b :: l.drop i
theorem insB_vals (l : List Bk) (i : Nat) (b : Bk) : bvals (insB l i b) = bvals (l.take i) ++ ([.int .i64 b.a, .int .i64 b.o, .int .i64 b.t] ++ bvals (l.drop i)) := by
 unfold insB
 rw [bvals_append]
 rfl
def RetRow (w w' : World) (base g n : Nat) (l : List Bk) (e : Ending) : Prop :=
 ∃ g' cap', e = .returned (.slice (some ⟨g', 0, none⟩) n cap') ∧ w'.ownsRow base 40 3 (.slice (some ⟨g', 0, none⟩) n cap') n (bvals l) ∧ But g w w' ∧ (g' = g ∨ w.heap.size ≤ g')
theorem ov_false (w : World) (g gv off lb cb la ca : Nat) (cur vs : List Value) (cap kA : Nat) (R : Row w 40 3 g cap cur) (hv : w.heap[gv]? = some (.cells vs.toArray 40 (0, 0))) (hk : vs.length = kA) (hne : gv ≠ g) (hc : 0 < cap) :
    (callFunc 91 #[.slice (some ⟨gv, 0, none⟩) la ca, .slice (some ⟨g, off, none⟩) lb cb]).run Tryz.prog w = .ok (.value (.bool false)) w := by
 have hz : ∀ w, (Go.sizeOf 40).run Tryz.prog w = .ok 3 w := fun w => Tryz.sizeOf40 w
 rw [run_callFunc_extern Tryz.func91 (by kernel_rfl) (by kernel_rfl) (by kernel_rfl) (e := Extern.SlicesOverlaps.overlaps #[32, 32] #[4]) (by kernel_rfl),
  Lib.run_overlaps_apart w 32 4 40 Tryz.underlying32 3 hz ⟨gv, 0, none⟩ ⟨g, off, none⟩ la ca lb cb hne 40 40 kA (cap * 3) (by simp [World.shape?, hv, hk]) (by simp [World.shape?, R.h, R.len]) (by omega) (by simp [World.frozen?, hv]) (by simp [World.frozen?, hv])]
 rfl
theorem bIns_end (w : World) (base g N cap i gv : Nat) (l : List Bk) (b : Bk) (hi : i = N) (hN : N ≤ 300) (own : w.ownsRow base 40 3 (.slice (some ⟨g, 0, none⟩) N cap) N (bvals l)) (hv : w.heap[gv]? = some (.cells #[.int .i64 b.a, .int .i64 b.o, .int .i64 b.t] 40 (0, 0))) (_hne : gv ≠ g) :
    Calls Tryz.prog 68 #[.slice (some ⟨g, 0, none⟩) N cap, .int .i64 i, .slice (some ⟨gv, 0, none⟩) 1 1] w fun e w' => RetRow w w' base g (N + 1) (insB l i b) e := by
 obtain ⟨i1, hj, hy0, hy1, hy2⟩ := info_parts info_block
 have hll := bowns_len own
 obtain ⟨hbg, hnc, cur, R, hcur⟩ := Row.of own
 have hm := R.m
 have hml : N + 1 ≤ maxLen := by unfold maxLen; omega
 unfold maxLen at hm
 have hRl := R.len
 have hvc : ∀ j v, ([.int .i64 b.a, .int .i64 b.o, .int .i64 b.t] : List Value)[j]? = some v → ∀ W : World, W.heap[gv]? = some (.cells #[.int .i64 b.a, .int .i64 b.o, .int .i64 b.t] 40 (0, 0)) → W.cell? ((⟨gv, 0, none⟩ : Addr).add j) = some v := by
  intro j v hjv W hW
  rw [add_at, Nat.zero_add]
  simp only [World.cell?, hW]
  simpa using hjv
 have hv1 : ∀ u ∈ ([.int .i64 b.a, .int .i64 b.o, .int .i64 b.t] : List Value), u.oneCell' = true := ints_oneCell .i64 [_, _, _]
 obtain ⟨vs, hvs⟩ : ∃ vs : List Value, [.int .i64 b.a, .int .i64 b.o, .int .i64 b.t] = vs := ⟨_, rfl⟩
 have hvl : vs.length = 3 := by rw [← hvs]; rfl
 have HVA : (#[.int .i64 b.a, .int .i64 b.o, .int .i64 b.t] : Array Value) = vs.toArray := by rw [← hvs]
 have HI : Hid (bvals (insB l i b) = bvals (l.take i) ++ (vs ++ bvals (l.drop i))) := by show _ = _; rw [insB_vals, hvs]
 rw [HVA] at hv hvc
 rw [hvs] at hvc hv1
 have HVC : Hid _ := hvc
 clear hvs HVA hvc
 have a1 : (i : Int) ≤ N := by omega
 have a2 : ((1 : Int) == 0) = false := by decide
 have a3 : (N : Int) ≤ cap := by omega
 have HE : Hid (bvals l ++ vs = bvals (insB l i b)) := by
  show _ = _
  rw [HI.out, List.take_of_length_le (by omega), List.drop_of_length_le (by omega)]
  simp [bvals]
 subst hi
 have hc1 : ∀ j v, vs[j]? = some v → w.cell? ((⟨gv, 0, none⟩ : Addr).add j) = some v := fun j v h => HVC.out j v h w hv
 by_cases hroom : i + 1 ≤ cap
 ·go_enter Tryz.func68, Tryz.ntmps68
  go_wp2_with (at_builtin; refine wpList_append_fits _ rfl (.tmp 23) (.tmp 24) 32 rfl base 40 i1 3 Tryz.underlying32 hj hy1 g i cap (bvals l) rfl own ⟨gv, 0, none⟩ 1 1 vs rfl hvl hc1 hv1 hroom ?_; intro w1 ho1 hb1)
  all_goals
   go_ret
   exact ⟨g, cap, rfl, by rw [← HE.out]; exact ho1, ⟨hb1.os, hb1.tape, hb1.output, hb1.size, fun k hk hne => hb1.block k hk (by intro g; exact hne (by simpa using g))⟩, .inl rfl⟩
 have hold : ∀ j v, (bvals l)[j]? = some v → w.cell? ((⟨g, 0, none⟩ : Addr).add j) = some v := own.cells rfl
 obtain ⟨cap', W, cur', hrun, R', ht, hc', hb'⟩ := grow_some (P := Tryz.prog) w 32 32 40 i1 _ 3 Tryz.underlying32 hj hy0 hy1 rfl ⟨g, 0, none⟩ i cap (bvals l) own.1 hold ⟨gv, 0, none⟩ 1 1 vs hvl hc1 (by omega) hml (by rw [hy2]; omega)
 have ow' := R'.owns (base := base) (n := i + 1) (by have := R.lt; omega) hc' ht
 have HR : Hid _ := hrun
 clear hrun
 go_enter Tryz.func68, Tryz.ntmps68
 go_wp2_with (at_builtin; refine Lib.wpList_append_run _ rfl (.tmp 23) (.tmp 24) 32 32 rfl _ _ rfl rfl _ _ HR.out ?_)
 all_goals
  go_ret
  exact ⟨w.heap.size, cap', rfl, by rw [← HE.out]; exact ow', .of_below hb', .inr (Nat.le_refl _)⟩
theorem bIns_shift (w : World) (base g N cap i gv : Nat) (l : List Bk) (b : Bk) (hi : i < N) (hN : N ≤ 300) (hroom : N + 1 ≤ cap) (own : w.ownsRow base 40 3 (.slice (some ⟨g, 0, none⟩) N cap) N (bvals l)) (hv : w.heap[gv]? = some (.cells #[.int .i64 b.a, .int .i64 b.o, .int .i64 b.t] 40 (0, 0))) (hne : gv ≠ g) :
    Calls Tryz.prog 68 #[.slice (some ⟨g, 0, none⟩) N cap, .int .i64 i, .slice (some ⟨gv, 0, none⟩) 1 1] w fun e w' => RetRow w w' base g (N + 1) (insB l i b) e := by
 obtain ⟨i1, hj, hy0, hy1, hy2⟩ := info_parts info_block
 have hll := bowns_len own
 obtain ⟨hbg, hnc, cur, R, hcur⟩ := Row.of own
 have hm := R.m
 have hml : N + 1 ≤ maxLen := by unfold maxLen; omega
 unfold maxLen at hm
 have hRl := R.len
 have hvc : ∀ j v, ([.int .i64 b.a, .int .i64 b.o, .int .i64 b.t] : List Value)[j]? = some v → ∀ W : World, W.heap[gv]? = some (.cells #[.int .i64 b.a, .int .i64 b.o, .int .i64 b.t] 40 (0, 0)) → W.cell? ((⟨gv, 0, none⟩ : Addr).add j) = some v := by
  intro j v hjv W hW
  rw [add_at, Nat.zero_add]
  simp only [World.cell?, hW]
  simpa using hjv
 have hv1 : ∀ u ∈ ([.int .i64 b.a, .int .i64 b.o, .int .i64 b.t] : List Value), u.oneCell' = true := ints_oneCell .i64 [_, _, _]
 obtain ⟨vs, hvs⟩ : ∃ vs : List Value, [.int .i64 b.a, .int .i64 b.o, .int .i64 b.t] = vs := ⟨_, rfl⟩
 have hvl : vs.length = 3 := by rw [← hvs]; rfl
 have HVA : (#[.int .i64 b.a, .int .i64 b.o, .int .i64 b.t] : Array Value) = vs.toArray := by rw [← hvs]
 have HI : Hid (bvals (insB l i b) = bvals (l.take i) ++ (vs ++ bvals (l.drop i))) := by show _ = _; rw [insB_vals, hvs]
 rw [HVA] at hv hvc
 rw [hvs] at hvc hv1
 have HVC : Hid _ := hvc
 clear hvs HVA hvc
 have a1 : (i : Int) ≤ N := by omega
 have a2 : ((1 : Int) == 0) = false := by decide
 have a3 : (N : Int) ≤ cap := by omega
 obtain ⟨XS, hXS⟩ : ∃ XS, XS = bvals (l.drop i) := ⟨_, rfl⟩
 have hXl : XS.length = (N - i) * 3 := by rw [hXS, length_bvals, List.length_drop, hll]
 have hX1 : ∀ u ∈ XS, u.oneCell' = true := by rw [hXS]; exact bvals_oneCell _
 have hXc : ∀ j u, XS[j]? = some u → cur[i * 3 + j]? = some u := by
  intro j u hu
  rw [hXS, ← bvals_drop, List.getElem?_drop] at hu
  rw [← hcur, List.getElem?_take] at hu
  split at hu
  ·exact hu
  cases hu
 have HI2 : Hid (bvals (insB l i b) = cur.take (i * 3) ++ (vs ++ XS)) := by
  show _ = _
  rw [HI.out, hXS, take_cut hcur (Nat.mul_le_mul_right 3 (show i ≤ N by omega)), bvals_take]
 have HXc : Hid _ := hXc
 clear hXS hXc HI hcur
 have b1 : ((i : Int) == (N : Int)) = false := by simp; omega
 have b2 : ¬ (cap = i) := by omega
 have b3 : (i : Int) ≤ (N : Int) + 1 := by omega
 have b4 : (i : Int) + 1 ≤ (N : Int) + 1 := by omega
 have b5 : ((i : Int) + 1).toNat = i + 1 := by omega
 have b6 : ((N : Int) + 1).toNat = N + 1 := by omega
 have b7 : (0 : Int) ≤ (i : Int) + 1 := by omega
 have b8 : (0 : Int) ≤ (N : Int) + 1 := by omega
 have b9 : i ≤ N := by omega
 have b10 : i ≤ cap := by omega
 have b11 : (i : Int) ≤ cap := by omega
 have bw : IntKind.i64.wrap ((i : Int) + 1) = (i : Int) + 1 := by rw [IntKind.wrap_i64]; omega
 have hov : ∀ lb cb, (callFunc 91 #[.slice (some ⟨gv, 0, none⟩) 1 1, .slice (some ⟨g, (i + 1) * 3, none⟩) lb cb]).run Tryz.prog w = .ok (.value (.bool false)) w := fun lb cb => ov_false w g gv _ lb cb 1 1 cur vs cap 3 R hv hvl hne (by omega)
 have b12 : ¬ (cap = i + 1) := by omega
 have b13 : ¬ ((cap : Int) < (N : Int) + 1) := by omega
 have b14 : (N : Int) + 1 ≤ (cap : Int) := by omega
 have RD := R.below (Below.refl w.heap.size w).drew
 have hv2 : w.drew.heap[gv]? = some (.cells vs.toArray 40 (0, 0)) := hv
 clear own
 go_enter Tryz.func68, Tryz.ntmps68
 go_wp2_with (simp only [hov])
 go_region_law (refine step_copy_k rfl (.tmp 73) (.tmp 76) 32 32 rfl 40 3 Tryz.underlying32 size_block (some ⟨g, (i + 1) * 3, none⟩) (some ⟨g, i * 3, none⟩) (N - i) (cap - (i + 1)) (N + 1 - i) (cap - i) (by simp [Act.eval, Act.put]) (by simp [Act.eval, Act.put]) g ((i + 1) * 3) cur 40 RD.h XS (N - i) (by simp only [Nat.min_def]; split <;> omega) hXl (fun _ => ⟨rfl, _, rfl, fun j v hj => by rw [add_at, RD.cell]; exact HXc.out j v hj⟩) (by omega) hX1 ?_; intro w1 hg1 hb1)
 all_goals
  have hv3 : w1.heap[gv]? = some (.cells vs.toArray 40 (0, 0)) := (hb1.block gv (Array.getElem?_eq_some_iff.1 hv2).1 hne).trans hv2
  clear hov RD
  go_wp2_with (refine wpList_copy_k rfl (.tmp 80) (.tmp 81) 32 32 rfl 40 3 Tryz.underlying32 size_block _ _ _ _ _ _ rfl rfl g (i * 3) (splice cur ((i + 1) * 3) XS) 40 hg1.out vs 1 (by simp only [Nat.min_def]; split <;> omega) hvl (fun _ => ⟨rfl, _, rfl, fun j v hj => HVC.out j v hj w1 hv3⟩) (by rw [length_splice _ _ _ (by omega)]; omega) hv1 ?_; intro w2 hg2 hb2)
  go_ret
  have e3 : (i + 1) * 3 = i * 3 + vs.length := by omega
  have hl2 : (splice (splice cur ((i + 1) * 3) XS) (i * 3) vs).length = cap * 3 := by rw [length_splice _ _ _ (by rw [length_splice _ _ _ (by omega)]; omega), length_splice _ _ _ (by omega)]; exact hRl
  have R2 : Row w2 40 3 g cap (splice (splice cur ((i + 1) * 3) XS) (i * 3) vs) := ⟨hg2.out, hl2, R.m⟩
  refine ⟨g, cap, rfl, R2.owns hbg hroom ?_, ((But.of_below (Below.refl _ _).drew).trans hb1).trans hb2, .inl rfl⟩
  rw [HI2.out, e3, show (N + 1) * 3 = i * 3 + vs.length + XS.length by omega]
  exact splice_two_b (by omega)
theorem bIns_grow (w : World) (base g N cap i gv : Nat) (l : List Bk) (b : Bk) (hi : i < N) (hN : N ≤ 300) (hroom : cap = N) (own : w.ownsRow base 40 3 (.slice (some ⟨g, 0, none⟩) N cap) N (bvals l)) (hv : w.heap[gv]? = some (.cells #[.int .i64 b.a, .int .i64 b.o, .int .i64 b.t] 40 (0, 0))) (_hne : gv ≠ g) :
    Calls Tryz.prog 68 #[.slice (some ⟨g, 0, none⟩) N cap, .int .i64 i, .slice (some ⟨gv, 0, none⟩) 1 1] w fun e w' => RetRow w w' base g (N + 1) (insB l i b) e := by
 subst hroom
 obtain ⟨i1, hj, hy0, hy1, hy2⟩ := info_parts info_block
 have hll := bowns_len own
 obtain ⟨hbg, hnc, cur, R, hcur⟩ := Row.of own
 have hm := R.m
 have hml : cap + 1 ≤ maxLen := by unfold maxLen; omega
 unfold maxLen at hm
 have hRl := R.len
 have hvc : ∀ j v, ([.int .i64 b.a, .int .i64 b.o, .int .i64 b.t] : List Value)[j]? = some v → ∀ W : World, W.heap[gv]? = some (.cells #[.int .i64 b.a, .int .i64 b.o, .int .i64 b.t] 40 (0, 0)) → W.cell? ((⟨gv, 0, none⟩ : Addr).add j) = some v := by
  intro j v hjv W hW
  rw [add_at, Nat.zero_add]
  simp only [World.cell?, hW]
  simpa using hjv
 have hv1 : ∀ u ∈ ([.int .i64 b.a, .int .i64 b.o, .int .i64 b.t] : List Value), u.oneCell' = true := ints_oneCell .i64 [_, _, _]
 obtain ⟨vs, hvs⟩ : ∃ vs : List Value, [.int .i64 b.a, .int .i64 b.o, .int .i64 b.t] = vs := ⟨_, rfl⟩
 have hvl : vs.length = 3 := by rw [← hvs]; rfl
 have HVA : (#[.int .i64 b.a, .int .i64 b.o, .int .i64 b.t] : Array Value) = vs.toArray := by rw [← hvs]
 have HI : Hid (bvals (insB l i b) = bvals (l.take i) ++ (vs ++ bvals (l.drop i))) := by show _ = _; rw [insB_vals, hvs]
 rw [HVA] at hv hvc
 rw [hvs] at hvc hv1
 have HVC : Hid _ := hvc
 clear hvs HVA hvc
 have a1 : (i : Int) ≤ cap := by omega
 have a2 : ((1 : Int) == 0) = false := by decide
 have a3 : (cap : Int) ≤ cap := by omega
 obtain ⟨XS, hXS⟩ : ∃ XS, XS = bvals (l.drop i) := ⟨_, rfl⟩
 have hXl : XS.length = (cap - i) * 3 := by rw [hXS, length_bvals, List.length_drop, hll]
 have hX1 : ∀ u ∈ XS, u.oneCell' = true := by rw [hXS]; exact bvals_oneCell _
 have hXc : ∀ j u, XS[j]? = some u → cur[i * 3 + j]? = some u := by
  intro j u hu
  rw [hXS, ← bvals_drop, List.getElem?_drop] at hu
  rw [← hcur, List.getElem?_take] at hu
  split at hu
  ·exact hu
  cases hu
 have HI2 : Hid (bvals (insB l i b) = cur.take (i * 3) ++ (vs ++ XS)) := by
  show _ = _
  rw [HI.out, hXS, take_cut hcur (Nat.mul_le_mul_right 3 (show i ≤ cap by omega)), bvals_take]
 have HXc : Hid _ := hXc
 clear hXS hXc HI hcur
 have b1 : ((i : Int) == (cap : Int)) = false := by simp; omega
 have b2 : ¬ (cap = i) := by omega
 have b3 : (i : Int) ≤ (cap : Int) + 1 := by omega
 have b4 : (i : Int) + 1 ≤ (cap : Int) + 1 := by omega
 have b5 : ((i : Int) + 1).toNat = i + 1 := by omega
 have b6 : ((cap : Int) + 1).toNat = cap + 1 := by omega
 have b7 : (0 : Int) ≤ (i : Int) + 1 := by omega
 have b8 : (0 : Int) ≤ (cap : Int) + 1 := by omega
 have b9 : i ≤ cap := by omega
 have b10 : i ≤ cap := by omega
 have b11 : (i : Int) ≤ cap := by omega
 have bw : IntKind.i64.wrap ((i : Int) + 1) = (i : Int) + 1 := by rw [IntKind.wrap_i64]; omega
 obtain ⟨K, hK⟩ : ∃ K : Nat, (cap : Int) + 1 - i = (K : Int) := ⟨cap + 1 - i, by omega⟩
 obtain ⟨cap', W, cur', hrun, R', ht, hc', hb'⟩ := grow_zeros (P := Tryz.prog) w 32 3 32 40 i1 _ 3 .i64 .i64 Tryz.underlying32 Tryz.underlying3 hj hy0 hy1 (by omega) rfl ⟨g, 0, none⟩ i cap (cur.take (i * 3)) (by rw [List.length_take]; omega) (fun j v hj => by
  rw [add_at, Nat.zero_add, R.cell]
  rw [List.getElem?_take] at hj
  split at hj
  ·exact hj
  cases hj) K (by omega) (by omega) (by unfold maxLen; omega) (by rw [hy2]; omega)
 have hiK : i + K = cap + 1 := by omega
 rw [hiK] at hrun hc'
 have hcl' := R'.len
 have hg' := R.lt
 have HR : Hid _ := hrun
 have c1 : ¬ (cap' = i) := by omega
 have c2 : ¬ (cap' = i + 1) := by omega
 have c3 : (cap : Int) < (cap : Int) + 1 := by omega
 have hv3 : W.heap[gv]? = some (.cells vs.toArray 40 (0, 0)) := (hb'.block gv (Array.getElem?_eq_some_iff.1 hv).1).trans hv
 have RW := R.below hb'
 clear hrun own
 go_enter Tryz.func68, Tryz.ntmps68
 go_wp2_with (first
  | (at_builtin; refine Lib.wpList_append_run _ rfl (.tmp 34) (.tmp 39) 32 3 rfl _ _ rfl rfl _ _ HR.out ?_)
  | (refine wpList_copy_k rfl (.tmp 43) (.tmp 44) 32 32 rfl 40 3 Tryz.underlying32 size_block _ _ _ _ _ _ rfl rfl w.heap.size (i * 3) cur' 40 R'.h vs 1 (by simp only [Nat.min_def]; split <;> omega) hvl (fun _ => ⟨rfl, _, rfl, fun j v hj => HVC.out j v hj W hv3⟩) (by omega) hv1 ?_; intro w2 hg2 hb2))
 have RD := (RW.but hb2 (by omega)).below (Below.refl w2.heap.size w2).drew
 have hgd : w2.drew.heap[w.heap.size]? = some (.cells (splice cur' (i * 3) vs).toArray 40 (0, 0)) := hg2.out
 go_region_law (refine step_copy_k rfl (.tmp 50) (.tmp 53) 32 32 rfl 40 3 Tryz.underlying32 size_block (some ⟨w.heap.size, (i + 1) * 3, none⟩) (some ⟨g, i * 3, none⟩) (cap - i) (cap' - (i + 1)) (cap - i) (cap - i) (by simp [Act.eval, Act.put]) (by simp [Act.eval, Act.put]) w.heap.size ((i + 1) * 3) (splice cur' (i * 3) vs) 40 hgd XS (cap - i) (by simp only [Nat.min_def]; split <;> omega) hXl (fun _ => ⟨rfl, _, rfl, fun j v hj => by rw [add_at, RD.cell]; exact HXc.out j v hj⟩) (by rw [length_splice _ _ _ (by omega)]; omega) hX1 ?_; intro w3 hg3 hb3)
 all_goals
  clear RD
  go_wp2
  go_ret
  have e3 : (i + 1) * 3 = i * 3 + vs.length := by omega
  have hl2 : (splice (splice cur' (i * 3) vs) ((i + 1) * 3) XS).length = cap' * 3 := by rw [length_splice _ _ _ (by rw [length_splice _ _ _ (by omega)]; omega), length_splice _ _ _ (by omega)]; exact hcl'
  have R2 : Row w3 40 3 w.heap.size cap' (splice (splice cur' (i * 3) vs) ((i + 1) * 3) XS) := ⟨hg3.out, hl2, R'.m⟩
  refine ⟨w.heap.size, cap', rfl, R2.owns (by omega) hc' ?_, ?_, .inr (Nat.le_refl _)⟩
  ·rw [HI2.out, e3, show (cap + 1) * 3 = i * 3 + vs.length + XS.length by omega, splice_two_a (by omega), ht]
  have hbl : Below w.heap.size w w3 := hb'.trans ((hb2.trans ((But.of_below (Below.refl _ _).drew).trans hb3)).below (Nat.le_refl _) hb'.size)
  exact .of_below hbl
theorem bIns_any (w : World) (base g N cap i gv : Nat) (l : List Bk) (b : Bk) (hi : i ≤ N) (hN : N ≤ 300) (own : w.ownsRow base 40 3 (.slice (some ⟨g, 0, none⟩) N cap) N (bvals l)) (hv : w.heap[gv]? = some (.cells #[.int .i64 b.a, .int .i64 b.o, .int .i64 b.t] 40 (0, 0))) (hne : gv ≠ g) :
    Calls Tryz.prog 68 #[.slice (some ⟨g, 0, none⟩) N cap, .int .i64 i, .slice (some ⟨gv, 0, none⟩) 1 1] w fun e w' => RetRow w w' base g (N + 1) (insB l i b) e := by
 have := owns_cap own
 by_cases h1 : i = N
 ·exact bIns_end w base g N cap i gv l b h1 hN own hv hne
 by_cases h2 : N + 1 ≤ cap
 ·exact bIns_shift w base g N cap i gv l b (by omega) hN h2 own hv hne
 exact bIns_grow w base g N cap i gv l b (by omega) hN (by omega) own hv hne
theorem shl_one (o : Int) (h : ordOk o) (W : World) : (binOp .shl 3 (.int .i64 1) (.int .i64 o)).run Tryz.prog W = .ok (.int .i64 (pw o)) W := by
 rcases ord_cases h with ⟨rfl, e⟩ | ⟨rfl, e⟩ | ⟨rfl, e⟩ | ⟨rfl, e⟩ | ⟨rfl, e⟩ <;> (rw [e]; rfl)
theorem putF1_any (W : World) (b1 b2 : Nat) (E a : Int) (ba bo bt : Int) (c1 : W.cell? ⟨b1, 0, none⟩ = some (.int .i64 E)) (c2 : W.cell? ⟨b2, 0, none⟩ = some (.int .i64 a)) (ho : ordOk bo) (h0 : 0 ≤ ba) (h1 : ba ≤ 256) :
    Calls Tryz.prog 113 (#[.agg #[.int .i64 ba, .int .i64 bo, .int .i64 bt]] ++ #[.pointer (some ⟨b1, 0, none⟩), .pointer (some ⟨b2, 0, none⟩)]) W fun e W' => e = .returned (.bool (ovl1 E a ⟨ba, bo, bt⟩)) ∧ Below W.heap.size W W' := by
 have hb0 := below_box W (.cells #[.int .i64 ba, .int .i64 bo, .int .i64 bt] 40)
 have d1 := keep c1 hb0
 have d2 := keep c2 hb0
 have l0 : (W.alloc (.cells #[.int .i64 ba, .int .i64 bo, .int .i64 bt] 40)).cell? ⟨W.heap.size, 0, none⟩ = some (.int .i64 ba) := by go_simp
 have l1 : (W.alloc (.cells #[.int .i64 ba, .int .i64 bo, .int .i64 bt] 40)).cell? ⟨W.heap.size, 1, none⟩ = some (.int .i64 bo) := by go_simp
 have l2 : (W.alloc (.cells #[.int .i64 ba, .int .i64 bo, .int .i64 bt] 40)).cell? ⟨W.heap.size, 2, none⟩ = some (.int .i64 bt) := by go_simp
 obtain ⟨W0, hW0⟩ : ∃ W0, W.alloc (.cells #[.int .i64 ba, .int .i64 bo, .int .i64 bt] 40) = W0 := ⟨_, rfl⟩
 rw [hW0] at hb0 d1 d2 l0 l1 l2
 have HW0 : Hid _ := hW0
 obtain ⟨T, hT⟩ : ∃ T, ba + pw bo = T := ⟨_, rfl⟩
 have HB : Hid (∀ V, Below W0.heap.size W0 V → Calls Tryz.prog 95 #[.agg #[.int .i64 ba, .int .i64 bo, .int .i64 bt]] V fun e w' => e = .returned (.int .i64 T) ∧ Below W0.heap.size W0 w') := fun V hS => by
  rw [← hT]
  refine (behind_any V ba bo bt ho h0 h1).mono ?_
  rintro e w' ⟨rfl, hb⟩
  exact ⟨rfl, hS.trans (hb.mono hS.size)⟩
 have S0 : Below W0.heap.size W0 W0 := Below.refl _ _
 have m1 : ∀ wx, Below W0.heap.size W0 wx → wx.cell? ⟨b1, 0, none⟩ = some (.int .i64 E) := fun wx h => keep d1 h
 have m2 : ∀ wx, Below W0.heap.size W0 wx → wx.cell? ⟨b2, 0, none⟩ = some (.int .i64 a) := fun wx h => keep d2 h
 clear c1 c2 hW0
 by_cases g1 : ba < E
 ·have HF : Hid (decide (a < T) = ovl1 E a ⟨ba, bo, bt⟩) := by
   show _ = decide (_ ∧ _)
   rw [← hT]; simp [g1]
  have g1' : decide (ba < E) = true := decide_eq_true g1
  clear hT
  go_enter Tryz.func113, Tryz.ntmps113
  go_wp2_with (rw [HW0.out])
  go_region_with (first | (go_at_call 95; refine (HB.out _ ?_).mono ?_; (first | exact Below.drew S0 | assumption); rintro e w6 ⟨rfl, hS6⟩; have a0 := m1 _ hS6; have a1 := m2 _ hS6))
  all_goals
   go_wp2
   go_ret
   exact ⟨ret_bool HF.out, hb0.trans (hS6.mono hb0.size)⟩
 have HF : Hid (false = ovl1 E a ⟨ba, bo, bt⟩) := by
  show _ = decide (_ ∧ _)
  simp [g1]
 have g1' : decide (ba < E) = false := decide_eq_false g1
 clear hT
 go_enter Tryz.func113, Tryz.ntmps113
 go_wp2_with (rw [HW0.out])
 go_region_with (first | (go_at_call 95; refine (HB.out _ ?_).mono ?_; (first | exact Below.drew S0 | assumption); rintro e w6 ⟨rfl, hS6⟩; have a0 := m1 _ hS6; have a1 := m2 _ hS6))
 all_goals
  go_wp2
  go_ret
  exact ⟨ret_bool HF.out, hb0.trans ((Below.drew S0).mono hb0.size)⟩
theorem putF1_call (args : Array Value) (W : World) : (callFunc 113 args).run Tryz.prog W = .ok (.enter 113 args) W := by kernel_rfl
theorem putF2_any (W : World) (b1 : Nat) (a : Int) (ba bo bt : Int) (c1 : W.cell? ⟨b1, 0, none⟩ = some (.int .i64 a)) :
    Calls Tryz.prog 115 (#[.agg #[.int .i64 ba, .int .i64 bo, .int .i64 bt]] ++ #[.pointer (some ⟨b1, 0, none⟩)]) W fun e W' => e = .returned (.bool (decide (a < ba))) ∧ Below W.heap.size W W' := by
 have hb0 := below_box W (.cells #[.int .i64 ba, .int .i64 bo, .int .i64 bt] 40)
 have d1 := keep c1 hb0
 clear c1
 go_enter Tryz.func115, Tryz.ntmps115
 go_wp2
 go_ret
 exact ⟨rfl, hb0⟩
theorem putF2_call (args : Array Value) (W : World) : (callFunc 115 args).run Tryz.prog W = .ok (.enter 115 args) W := by kernel_rfl
theorem addB_at {l : List Bk} {b : Bk} {i : Nat} (hi : i ≤ l.length) (h1 : ∀ j, j < i → ¬ b.a < (l.getD j .zero).a) (h2 : i < l.length → b.a < (l.getD i .zero).a) : addB l b = insB l i b := by
 induction l generalizing i with
 | nil => obtain rfl : i = 0 := by simpa using hi
          rfl
 | cons x l ih =>
  cases i with
  | zero =>
   have : x.a > b.a := by have := h2 (by simp); simpa using this
   unfold addB
   rw [if_pos this]
   rfl
  | succ i =>
   have : ¬ x.a > b.a := by have := h1 0 (by omega); simpa using this
   unfold addB
   rw [if_neg this, ih (by simpa using hi) (fun j hj => by have := h1 (j + 1) (by omega); simpa using this) (fun hh => by have := h2 (by simpa using hh); simpa using this)]
   rfl
structure Zo (w : World) (base zb g n cap k tn tk : Nat) (z : Zn) : Prop where
 box : ZBox w zb (.int .i64 z.f) (.int .i64 z.t) (.slice (some ⟨g, 0, none⟩) n cap) (.slice (some ⟨k, 0, none⟩) tn tk)
 own : w.ownsRow base 40 3 (.slice (some ⟨g, 0, none⟩) n cap) n (bvals z.free)
 typ : w.ownsRow base 3 1 (.slice (some ⟨k, 0, none⟩) tn tk) tn (vals z.types)
 gz : g ≠ zb
 kz : k ≠ zb
 gk : g ≠ k
theorem Zo.below {w w' : World} {base zb g n cap k tn tk : Nat} {z : Zn} (h : Zo w base zb g n cap k tn tk z) (hb : Below w.heap.size w w') : Zo w' base zb g n cap k tn tk z :=
 ⟨h.box.below hb, owns_below h.own hb (Nat.le_refl _), owns_below h.typ hb (Nat.le_refl _), h.gz, h.kz, h.gk⟩
theorem Zo.glt {w : World} {base zb g n cap k tn tk : Nat} {z : Zn} (h : Zo w base zb g n cap k tn tk z) : g < w.heap.size := (h.own.lt _ rfl).2
theorem Zo.klt {w : World} {base zb g n cap k tn tk : Nat} {z : Zn} (h : Zo w base zb g n cap k tn tk z) : k < w.heap.size := (h.typ.lt _ rfl).2
theorem may_len {z : Zn} (h : ZMay z) : z.free.length ≤ 256 := by
 have := freeOk_count h.free h.new.2.2.2.2 h.new.2.1
 have := h.new.2.2.1
 have := h.new.1
 omega
theorem may_blk {z : Zn} (h : ZMay z) : ∀ b ∈ z.free, blkIn z.f z.t b.a b.o := by
 intro b hb
 obtain ⟨i, hi, rfl⟩ := List.getElem_of_mem hb
 have := (freeOk_at h.free hi rfl).1
 rw [List.getD_eq_getElem?_getD, List.getElem?_eq_getElem hi] at this
 exact this
theorem wrap_pw (o : Int) (h : ordOk o) : IntKind.i64.wrap ((2 : Int) ^ o.toNat) = pw o := by
 rcases ord_cases h with ⟨rfl, e⟩ | ⟨rfl, e⟩ | ⟨rfl, e⟩ | ⟨rfl, e⟩ | ⟨rfl, e⟩ <;> (rw [e]; rfl)
theorem put_twice (w : World) (base zb g n cap k tn tk : Nat) (z : Zn) (a o : Int) (Z : Zo w base zb g n cap k tn tk z) (hM : ZMay z) (hA : blkIn z.f z.t a o) (hv : ovlP z.free a o) :
    Calls Tryz.prog 98 #[.pointer (some ⟨zb, 0, none⟩), .int .i64 a, .int .i64 o] w fun e w' => e = .returned (.int .i64 5) ∧ Below w.heap.size w w' := by
 obtain ⟨⟨o0, o4⟩, a1, a2, a3⟩ := id hA
 obtain ⟨n1, n2, n3, n4, n5⟩ := hM.new
 have hzl := Z.box.lt
 have hgl := Z.glt
 have hkl := Z.klt
 have hp1 := pw_pos o
 have hp2 := pw_le (o := o) ⟨o0, o4⟩
 have hw1 := wrap_pw o ⟨o0, o4⟩
 obtain ⟨P, hP⟩ : ∃ P, pw o = P := ⟨_, rfl⟩
 have HP : Hid (pw o = P) := hP
 rw [hP] at hw1 hp1 hp2
 have hw2 : IntKind.i64.wrap (a + P) = a + P := IntWalk.i64_in _ (by omega)
 have s0 : (w.alloc (.cells #[.int .i64 a] 3)).cell? ⟨w.heap.size, 0, none⟩ = some (.int .i64 a) := by simp
 have hb1 : Below w.heap.size w (((w.alloc (.cells #[.int .i64 a] 3)).alloc (.cells #[.int .i64 (a + P)] 3)).drew) := (((Below.refl _ _).alloc (Nat.le_refl _) _).alloc (by simp) _).drew
 have p1 : (((w.alloc (.cells #[.int .i64 a] 3)).alloc (.cells #[.int .i64 (a + P)] 3)).drew).cell? ⟨w.heap.size, 0, none⟩ = some (.int .i64 a) := by go_simp
 have p2 : (((w.alloc (.cells #[.int .i64 a] 3)).alloc (.cells #[.int .i64 (a + P)] 3)).drew).cell? ⟨w.heap.size + 1, 0, none⟩ = some (.int .i64 (a + P)) := by go_simp
 have p3 : (((w.alloc (.cells #[.int .i64 a] 3)).alloc (.cells #[.int .i64 (a + P)] 3)).drew).frozen? ⟨w.heap.size, 0, none⟩ = false := by go_simp
 have p4 : (((w.alloc (.cells #[.int .i64 a] 3)).alloc (.cells #[.int .i64 (a + P)] 3)).drew).heap.size = w.heap.size + 2 := by simp
 obtain ⟨W1, hW1⟩ : ∃ W1, ((w.alloc (.cells #[.int .i64 a] 3)).alloc (.cells #[.int .i64 (a + P)] 3)).drew = W1 := ⟨_, rfl⟩
 have HW1 : Hid _ := hW1
 rw [hW1] at hb1 p1 p2 p3 p4
 have Z1 := Z.below hb1
 have y2 := Z1.box.c2
 have hlen := bowns_len Z1.own
 have hl256 := may_len hM
 have hHold : HoldsB 113 #[.pointer (some ⟨w.heap.size + 1, 0, none⟩), .pointer (some ⟨w.heap.size, 0, none⟩)] z.free (ovl1 (a + P) a) W1 := fun i hi W hb => by
  have hB := (freeOk_at hM.free hi rfl).1
  exact putF1_any W _ _ (a + P) a _ _ _ (keep p2 hb) (keep p1 hb) hB.1 (by have := hB.2.1; omega) (by have := hB.2.2.1; omega)
 have HCt := bContains_any W1 113 #[.pointer (some ⟨w.heap.size + 1, 0, none⟩), .pointer (some ⟨w.heap.size, 0, none⟩)] (some ⟨g, 0, none⟩) n cap z.free (ovl1 (a + P) a) (blks_own Z1.own (by omega)) putF1_call hHold
 clear hP hW1 hHold
 go_enter Tryz.func98, Tryz.ntmps98
 go_wp2_with fail
 go_region_held3 (fun wx => wx.cell? ⟨w.heap.size, 0, none⟩ = some (.int .i64 a)) (first | assumption | go_keep) (fail)
 rw [HW1.out]
 go_wp2_with fail
 go_at_call 23
 refine HCt.mono ?_
 rintro e W2 ⟨rfl, hb2⟩
 have hbb := hb1.trans (hb2.mono hb1.size)
 have hany : z.free.any (ovl1 (a + P) a) = true := by have := (ovl_any z.free a o).2 hv; rw [HP.out] at this; exact this
 rw [hany]
 clear hany HCt Z Z1 HW1 hM hv hA
 go_wp2
 go_ret
 exact ⟨rfl, hbb⟩
structure PutF (ab zb k K g n cap : Nat) (f t A x : Int) (tv : Value) (W : World) : Prop where
 a : W.cell? ⟨ab, 0, none⟩ = some (.int .i64 A)
 c0 : W.cell? ⟨zb, 0, none⟩ = some (.int .i64 f)
 c1 : W.cell? ⟨zb, 1, none⟩ = some (.int .i64 t)
 c2 : W.cell? ⟨zb, 2, none⟩ = some (.slice (some ⟨g, 0, none⟩) n cap)
 c3 : W.cell? ⟨zb, 3, none⟩ = some tv
 e : W.cell? ⟨k, K, none⟩ = some (.int .i64 x)
theorem PutF.below {ab zb k K g n cap : Nat} {f t A x : Int} {tv : Value} {W W' : World} (h : PutF ab zb k K g n cap f t A x tv W) (hb : Below W.heap.size W W') : PutF ab zb k K g n cap f t A x tv W' := ⟨keep h.a hb, keep h.c0 hb, keep h.c1 hb, keep h.c2 hb, keep h.c3 hb, keep h.e hb⟩
theorem PutF.but {ab zb k K g n cap c : Nat} {f t A x : Int} {tv : Value} {W W' : World} (h : PutF ab zb k K g n cap f t A x tv W) (hb : But c W W') (h1 : ab ≠ c) (h2 : zb ≠ c) (h3 : k ≠ c) : PutF ab zb k K g n cap f t A x tv W' := ⟨hb.cell h.a h1, hb.cell h.c0 h2, hb.cell h.c1 h2, hb.cell h.c2 h2, hb.cell h.c3 h2, hb.cell h.e h3⟩
def PutOk (w w' : World) (base zb g k tn tk : Nat) (z : Zn) : Prop :=
 ∃ g' n' cap', Zo w' base zb g' n' cap' k tn tk z ∧ (g' = g ∨ w.heap.size ≤ g') ∧ Bu2 g zb w w'
set_option maxHeartbeats 8000000 in
theorem put_ok (w : World) (base zb g n cap k tn tk : Nat) (z : Zn) (a o : Int) (Z : Zo w base zb g n cap k tn tk z) (hM : ZMay z) (hA : blkIn z.f z.t a o) (hv : ¬ ovlP z.free a o) :
    Calls Tryz.prog 98 #[.pointer (some ⟨zb, 0, none⟩), .int .i64 a, .int .i64 o] w fun e w' => e = .returned (.int .i64 0) ∧ PutOk w w' base zb g k tn tk (backZ z a o) := by
 obtain ⟨⟨o0, o4⟩, a1, a2, a3⟩ := id hA
 obtain ⟨n1, n2, n3, n4, n5⟩ := hM.new
 have hzl := Z.box.lt
 have hgl := Z.glt
 have hkl := Z.klt
 have hp1 := pw_pos o
 have hp2 := pw_le (o := o) ⟨o0, o4⟩
 have hw1 := wrap_pw o ⟨o0, o4⟩
 obtain ⟨P, hP⟩ : ∃ P, pw o = P := ⟨_, rfl⟩
 have HP : Hid (pw o = P) := hP
 rw [hP] at hw1 hp1 hp2
 have hw2 : IntKind.i64.wrap (a + P) = a + P := IntWalk.i64_in _ (by omega)
 have s0 : (w.alloc (.cells #[.int .i64 a] 3)).cell? ⟨w.heap.size, 0, none⟩ = some (.int .i64 a) := by simp
 have hb1 : Below w.heap.size w (((w.alloc (.cells #[.int .i64 a] 3)).alloc (.cells #[.int .i64 (a + P)] 3)).drew) := (((Below.refl _ _).alloc (Nat.le_refl _) _).alloc (by simp) _).drew
 have p1 : (((w.alloc (.cells #[.int .i64 a] 3)).alloc (.cells #[.int .i64 (a + P)] 3)).drew).cell? ⟨w.heap.size, 0, none⟩ = some (.int .i64 a) := by go_simp
 have p2 : (((w.alloc (.cells #[.int .i64 a] 3)).alloc (.cells #[.int .i64 (a + P)] 3)).drew).cell? ⟨w.heap.size + 1, 0, none⟩ = some (.int .i64 (a + P)) := by go_simp
 have p3 : (((w.alloc (.cells #[.int .i64 a] 3)).alloc (.cells #[.int .i64 (a + P)] 3)).drew).frozen? ⟨w.heap.size, 0, none⟩ = false := by go_simp
 have p4 : (((w.alloc (.cells #[.int .i64 a] 3)).alloc (.cells #[.int .i64 (a + P)] 3)).drew).heap.size = w.heap.size + 2 := by simp
 obtain ⟨W1, hW1⟩ : ∃ W1, ((w.alloc (.cells #[.int .i64 a] 3)).alloc (.cells #[.int .i64 (a + P)] 3)).drew = W1 := ⟨_, rfl⟩
 have HW1 : Hid _ := hW1
 rw [hW1] at hb1 p1 p2 p3 p4
 have Z1 := Z.below hb1
 have y2 := Z1.box.c2
 have hlen := bowns_len Z1.own
 have hl256 := may_len hM
 have hHold : HoldsB 113 #[.pointer (some ⟨w.heap.size + 1, 0, none⟩), .pointer (some ⟨w.heap.size, 0, none⟩)] z.free (ovl1 (a + P) a) W1 := fun i hi W hb => by
  have hB := (freeOk_at hM.free hi rfl).1
  exact putF1_any W _ _ (a + P) a _ _ _ (keep p2 hb) (keep p1 hb) hB.1 (by have := hB.2.1; omega) (by have := hB.2.2.1; omega)
 have HCt := bContains_any W1 113 #[.pointer (some ⟨w.heap.size + 1, 0, none⟩), .pointer (some ⟨w.heap.size, 0, none⟩)] (some ⟨g, 0, none⟩) n cap z.free (ovl1 (a + P) a) (blks_own Z1.own (by omega)) putF1_call hHold
 clear hP hW1 hHold
 go_enter Tryz.func98, Tryz.ntmps98
 go_wp2_with fail
 go_region_held3 (fun wx => wx.cell? ⟨w.heap.size, 0, none⟩ = some (.int .i64 a)) (first | assumption | go_keep) (fail)
 rw [HW1.out]
 go_wp2_with fail
 go_at_call 23
 refine HCt.mono ?_
 rintro e W2 ⟨rfl, hb2⟩
 have hany : z.free.any (ovl1 (a + P) a) = false := by
  cases hh : z.free.any (ovl1 (a + P) a) with
  | false => rfl
  | true => rw [← HP.out] at hh; exact absurd ((ovl_any z.free a o).1 hh) hv
 rw [hany]
 have Z2 := Z1.below hb2
 have hB2 := hb1.trans (hb2.mono hb1.size)
 have r1 := keep p1 hb2
 have r3 : W2.frozen? ⟨w.heap.size, 0, none⟩ = false := (hb2.frozen (p := ⟨w.heap.size, 0, none⟩) (World.block_lt_of_cell? W1 _ p1)).trans p3
 obtain ⟨R, hR⟩ : ∃ R, backGo (4 - o).toNat z.free a o = R := ⟨_, rfl⟩
 have HJ := join_any W2 base zb g n cap z.f z.t (.slice (some ⟨k, 0, none⟩) tn tk) z.free a o hM.new Z2.box Z2.own Z2.gz (by omega) (inc_of_free hM.free) (may_blk hM) hA R hR
 have HR : Hid (backZ z a o = ⟨z.f, z.t, addB R.1 ⟨R.2.1, R.2.2, z.types.getD ((R.2.1 - z.f) / 8).toNat 0⟩, z.types⟩) := by show _ = _; unfold backZ; rw [hR]
 have hs2 := hb2.size
 clear hany HCt Z Z1 HW1 hv hA hR p1 p2 p3 y2 hb1 s0
 go_wp2_with fail
 go_at_call 114
 refine HJ.mono ?_
 rintro e W3 ⟨⟨n', rfl, hn', B3, own3, hbu3⟩, hA3⟩
 obtain ⟨L, A, O⟩ := R
 dsimp only at own3 hA3 HR ⊢
 have gab1 : w.heap.size ≠ zb := by omega
 have gab2 : w.heap.size ≠ g := by omega
 have gab3 : w.heap.size ≠ k := by omega
 have t1 := hbu3.cell r1 gab2 gab1
 have t3 : W3.frozen? ⟨w.heap.size, 0, none⟩ = false := (World.frozen?_of_block (a := ⟨w.heap.size, 0, none⟩) (hbu3.block w.heap.size (World.block_lt_of_cell? W2 _ r1) gab2 gab1)).trans r3
 have typ3 := hbu3.owns Z2.typ (Ne.symm Z2.gk) Z2.kz
 have hbt4 : But w.heap.size W3 (W3.setCell ⟨w.heap.size, 0, none⟩ (.int .i64 A)) := (But.refl _ _).setCell _
 have B4 := B3.but hbt4 (Ne.symm gab1)
 have own4 := own_but own3 hbt4 (Ne.symm gab2)
 have typ4 := own_but typ3 hbt4 (Ne.symm gab3)
 have at4 : (W3.setCell ⟨w.heap.size, 0, none⟩ (.int .i64 A)).cell? ⟨w.heap.size, 0, none⟩ = some (.int .i64 A) := World.cell?_setCell_same _ _ _ t1
 have hU4 : Bu2 g zb w (W3.setCell ⟨w.heap.size, 0, none⟩ (.int .i64 A)) := by
  have h3 : Bu2 g zb w W3 := (Bu2.of_below hB2).trans hbu3
  exact ⟨hbt4.os.trans h3.os, hbt4.tape.trans h3.tape, hbt4.output.trans h3.output, Nat.le_trans h3.size hbt4.size, fun j hj h1 h2 => (hbt4.block j (Nat.lt_of_lt_of_le hj h3.size) (by omega)).trans (h3.block j hj h1 h2)⟩
 obtain ⟨W4, hW4⟩ : ∃ W4, W3.setCell ⟨w.heap.size, 0, none⟩ (.int .i64 A) = W4 := ⟨_, rfl⟩
 rw [hW4] at B4 own4 typ4 at4 hU4
 have HW4 : Hid _ := hW4
 have y2 := B4.c2
 have hlL := bowns_len own4
 have hHold : HoldsB 115 #[.pointer (some ⟨w.heap.size, 0, none⟩)] L (fun b => decide (A < b.a)) W4 := fun i hi W hb => putF2_any W _ A _ _ _ (keep at4 hb)
 have HIx := bIndex_any W4 115 #[.pointer (some ⟨w.heap.size, 0, none⟩)] (some ⟨g, 0, none⟩) n' cap L (fun b => decide (A < b.a)) (blks_own own4 (by omega)) putF2_call hHold
 obtain ⟨⟨oo0, oo4⟩, a4, a5, a6⟩ := hA3
 have hlenT := hM.len
 have htl := owns_len typ4
 obtain ⟨K, hK⟩ : ∃ K : Nat, (A - z.f) / 8 = (K : Int) := ⟨((A - z.f) / 8).toNat, by omega⟩
 obtain ⟨x, hx⟩ : ∃ x, z.types.getD K 0 = x := ⟨_, rfl⟩
 clear hHold hW4 HJ B3 own3 typ3 hbt4 hbu3 r1 r3
 go_wp2_with (rw [HW4.out])
 go_at_call 39
 refine HIx.mono ?_
 rintro e W5 ⟨hf, hb5⟩
 have B5 := B4.below hb5
 have own5 := owns_below own4 hb5 (Nat.le_refl _)
 have typ5 := owns_below typ4 hb5 (Nat.le_refl _)
 have at5 := keep at4 hb5
 have hU5 := hU4.trans (.of_below hb5)
 have hs5 : w.heap.size ≤ W5.heap.size := hU5.size
 clear HIx B4 own4 typ4 at4 hU4 hb5 y2 t1 t3 HW4
 rcases hf with ⟨I, hI, rfl, hi1, hi2⟩ | ⟨rfl, hi1⟩
 ·have hI1 : ∀ j, j < I → ¬ (⟨A, O, x⟩ : Bk).a < (L.getD j .zero).a := fun j hj => of_decide_eq_false (hi2 j hj)
  have hI2 : I < L.length → (⟨A, O, x⟩ : Bk).a < (L.getD I .zero).a := fun _ => of_decide_eq_true hi1
  clear hi1 hi2
  have hKn : K < tn := by omega
  have hKi : (K : Int) < (tn : Int) := by omega
  have c0 := B5.c0
  have c1 := B5.c1
  have c2 := B5.c2
  have c3 := B5.c3
  have z2 := B5.z2
  have hcx : W5.cell? ⟨k, K, none⟩ = some (.int .i64 x) := by
   have h := typ5.cellAt K (by omega)
   rw [vals_get, List.getElem?_eq_getElem (by omega)] at h
   rw [h, ← hx, List.getD_eq_getElem?_getD, List.getElem?_eq_getElem (by omega)]
   rfl
  have S0 : PutF w.heap.size zb k K g n' cap z.f z.t A x (.slice (some ⟨k, 0, none⟩) tn tk) W5 := ⟨at5, c0, c1, c2, c3, hcx⟩
  have S1 : PutF w.heap.size zb k K g n' cap z.f z.t A x (.slice (some ⟨k, 0, none⟩) tn tk) { W5 with drawn := W5.drawn + 1 } := S0.below (Below.refl _ _).drew
  have m1 : ∀ wx, PutF w.heap.size zb k K g n' cap z.f z.t A x (.slice (some ⟨k, 0, none⟩) tn tk) wx → wx.cell? ⟨w.heap.size, 0, none⟩ = some (.int .i64 A) := fun wx h => h.a
  have m2 : ∀ wx, PutF w.heap.size zb k K g n' cap z.f z.t A x (.slice (some ⟨k, 0, none⟩) tn tk) wx → wx.cell? ⟨zb, 0, none⟩ = some (.int .i64 z.f) := fun wx h => h.c0
  have m3 : ∀ wx, PutF w.heap.size zb k K g n' cap z.f z.t A x (.slice (some ⟨k, 0, none⟩) tn tk) wx → wx.cell? ⟨zb, 1, none⟩ = some (.int .i64 z.t) := fun wx h => h.c1
  have m4 : ∀ wx, PutF w.heap.size zb k K g n' cap z.f z.t A x (.slice (some ⟨k, 0, none⟩) tn tk) wx → wx.cell? ⟨zb, 2, none⟩ = some (.slice (some ⟨g, 0, none⟩) n' cap) := fun wx h => h.c2
  have m5 : ∀ wx, PutF w.heap.size zb k K g n' cap z.f z.t A x (.slice (some ⟨k, 0, none⟩) tn tk) wx → wx.cell? ⟨zb, 3, none⟩ = some (.slice (some ⟨k, 0, none⟩) tn tk) := fun wx h => h.c3
  have m6 : ∀ wx, PutF w.heap.size zb k K g n' cap z.f z.t A x (.slice (some ⟨k, 0, none⟩) tn tk) wx → wx.cell? ⟨k, K, none⟩ = some (.int .i64 x) := fun wx h => h.e
  have HG : Hid (∀ V, Below W5.heap.size W5 V → Calls Tryz.prog 102 #[.agg #[.int .i64 z.f, .int .i64 z.t, .slice (some ⟨g, 0, none⟩) n' cap, .slice (some ⟨k, 0, none⟩) tn tk], .int .i64 A] V fun e w' => e = .returned (.int .i64 K) ∧ Below W5.heap.size W5 w') := fun V hV => by
   rw [← hK]
   refine (group_any V z.f z.t _ _ n' cap tn tk A n1 a4 (by omega)).mono ?_
   rintro e w' ⟨rfl, hb⟩
   exact ⟨rfl, hV.trans (hb.mono hV.size)⟩
  have HI : Hid (∀ w6, Below W5.heap.size W5 w6 → Calls Tryz.prog 68 #[.slice (some ⟨g, 0, none⟩) n' cap, .int .i64 (I : Int), .slice (some ⟨w6.heap.size, 0, none⟩) 1 1] (w6.alloc (.cells #[.int .i64 A, .int .i64 O, .int .i64 x] 40)) fun e w7 => RetRow (w6.alloc (.cells #[.int .i64 A, .int .i64 O, .int .i64 x] 40)) w7 base g (n' + 1) (insB L I ⟨A, O, x⟩) e) := fun w6 hb6 => by
   refine bIns_any _ base g n' cap I w6.heap.size L ⟨A, O, x⟩ (by omega) (by omega) (owns_below (owns_below own5 hb6 (Nat.le_refl _)) (below_box _ _) (Nat.le_refl _)) (heap_alloc_new _ _) (by have := hb6.size; omega)
  have HADD : Hid (backZ z a o = ⟨z.f, z.t, insB L I ⟨A, O, x⟩, z.types⟩) := by
   show _ = _
   rw [HR.out, hK, show ((K : Int)).toNat = K from rfl, hx, addB_at (by omega) hI1 hI2]
  clear hI1 hI2 HR hK hx
  have hBd := (Below.refl W5.heap.size W5).drew
  go_wp2_with fail
  refine wp_region_peel (S := fun wx => PutF w.heap.size zb k K g n' cap z.f z.t A x (.slice (some ⟨k, 0, none⟩) tn tk) wx) 24 _ (by kernel_rfl) (by kernel_rfl) rfl ?_
  simp only [List.take_succ_cons, List.take_zero]
  refine tkH 0 (.pointer (some ⟨zb, 0, none⟩)) S1 (h:=?_)
  refine tkH 1 (.pointer (some ⟨zb, 0, none⟩)) S1 (h:=?_)
  refine tkH 2 (.pointer (some ⟨zb, 0, none⟩)) S1 (h:=?_)
  refine tkH 3 (.pointer (some ⟨zb, 2, none⟩)) S1 (h:=?_)
  refine tkH 4 (.slice (some ⟨g, 0, none⟩) n' cap) S1 (h:=?_)
  refine tkH 5 (.int .i64 (I : Int)) S1 (h:=?_)
  refine tkH 6 (.int .i64 A) S1 (h:=?_)
  refine tkH 7 (.int .i64 O) S1 (h:=?_)
  refine tkH 8 (.pointer (some ⟨zb, 0, none⟩)) S1 (h:=?_)
  refine tkH 9 (.pointer (some ⟨zb, 0, none⟩)) S1 (h:=?_)
  refine tkH 10 (.pointer (some ⟨zb, 3, none⟩)) S1 (h:=?_)
  refine tkH 11 (.slice (some ⟨k, 0, none⟩) tn tk) S1 (h:=?_)
  refine tkH 12 (.pointer (some ⟨zb, 0, none⟩)) S1 (h:=?_)
  refine tkH 13 (.pointer (some ⟨zb, 0, none⟩)) S1 (h:=?_)
  refine tkH 14 (.agg #[.int .i64 z.f, .int .i64 z.t, .slice (some ⟨g, 0, none⟩) n' cap, .slice (some ⟨k, 0, none⟩) tn tk]) S1 (h:=?_)
  refine tkH 15 (.int .i64 A) S1 (h:=?_)
  refine oneH 16 (by kernel_rfl) rfl rfl (fun K1 hK1 => ?_)
  go_simp
  refine (HG.out _ hBd).mono ?_
  rintro e w6 ⟨rfl, hb6⟩
  have hS6 := S0.below hb6
  refine hK1 _ _ hS6 ?_
  try simp only [Act.put, List.setIfInBounds_toArray, List.set_cons_zero, List.set_cons_succ]
  refine tkH 17 (.pointer (some ⟨k, K, none⟩)) hS6 (h:=?_)
  refine tkH 18 (.int .i64 x) hS6 (h:=?_)
  refine tkH 19 (.agg #[.int .i64 A, .int .i64 O, .int .i64 x]) hS6 (h:=?_)
  refine oneH 20 (by kernel_rfl) rfl rfl (fun K2 hK2 => ?_)
  go_simp
  have hS6' := hS6.below (below_box w6 (.cells #[.int .i64 A, .int .i64 O, .int .i64 x] 40))
  refine hK2 _ _ hS6' ?_
  try simp only [Act.put, List.setIfInBounds_toArray, List.set_cons_zero, List.set_cons_succ]
  refine oneH 21 (by kernel_rfl) rfl rfl (fun K3 hK3 => ?_)
  go_simp
  refine (HI.out _ hb6).mono ?_
  rintro e w7 ⟨g', cap', rfl, ow7, hb7, hg7⟩
  have B7 := ((B5.below hb6).below (below_box w6 (.cells #[.int .i64 A, .int .i64 O, .int .i64 x] 40))).but hb7 (Ne.symm Z2.gz)
  have f2 := B7.c2
  have f2z := B7.z2
  have hS7 := hS6'.but hb7 gab2 (Ne.symm Z2.gz) (Ne.symm Z2.gk)
  refine hK3 _ _ hS7 ?_
  try simp only [Act.put, List.setIfInBounds_toArray, List.set_cons_zero, List.set_cons_succ]
  refine tkH 22 (.pointer (some ⟨zb, 0, none⟩)) hS7 (h:=?_)
  refine tkH 23 (.pointer (some ⟨zb, 2, none⟩)) hS7 (h:=?_)
  refine wpAnyH_done (by kernel_rfl) ?_ _
  show Oper.wp _ _ _ _ _ _
  all_goals
   have typ7 := own_but (owns_below (owns_below typ5 hb6 (Nat.le_refl _)) (below_box w6 (.cells #[.int .i64 A, .int .i64 O, .int .i64 x] 40)) (Nat.le_refl _)) hb7 (Ne.symm Z2.gk)
   have hs6 := hb6.size
   have hs7 : w6.heap.size + 1 ≤ w7.heap.size := by have := hb7.size; simpa using this
   have hg7' : g' = g ∨ w6.heap.size + 1 ≤ g' := by simpa using hg7
   have hbt : But zb w7 (w7.setCell ⟨zb, 2, none⟩ (.slice (some ⟨g', 0, none⟩) (n' + 1) cap')) := (But.refl _ _).setCell _
   have hgz' : g' ≠ zb := by rcases hg7' with h | h; rw [h]; exact Z2.gz; omega
   have hgk' : g' ≠ k := by rcases hg7' with h | h; rw [h]; exact Z2.gk; omega
   have ZF : Zo (w7.setCell ⟨zb, 2, none⟩ (.slice (some ⟨g', 0, none⟩) (n' + 1) cap')) base zb g' (n' + 1) cap' k tn tk ⟨z.f, z.t, insB L I ⟨A, O, x⟩, z.types⟩ := ⟨B7.set2 _, own_but ow7 hbt hgz', own_but typ7 hbt Z2.kz, hgz', Z2.kz, hgk'⟩
   have hU : Bu2 g zb w (w7.setCell ⟨zb, 2, none⟩ (.slice (some ⟨g', 0, none⟩) (n' + 1) cap')) := (((hU5.trans (.of_below hb6)).trans (.of_below (below_box w6 (.cells #[.int .i64 A, .int .i64 O, .int .i64 x] 40)))).trans (.of_but_g hb7)).trans (.of_but_z hbt)
   have hgF : g' = g ∨ w.heap.size ≤ g' := by rcases hg7' with h | h; exact .inl h; exact .inr (by omega)
   clear hS6 hS6' hS7 HG HI m1 m2 m3 m4 m5 m6 S0 S1 B5 own5 typ5 c0 c1 c2 c3
   go_wp2
   go_ret
   rw [HADD.out]
   exact ⟨rfl, g', n' + 1, cap', ZF, hgF, hU⟩
 have hI1 : ∀ j, j < n' → ¬ (⟨A, O, x⟩ : Bk).a < (L.getD j .zero).a := fun j hj => of_decide_eq_false (hi1 j (by omega))
 have hI2 : n' < L.length → (⟨A, O, x⟩ : Bk).a < (L.getD n' .zero).a := fun h => by omega
 clear hi1
 have hKn : K < tn := by omega
 have hKi : (K : Int) < (tn : Int) := by omega
 have c0 := B5.c0
 have c1 := B5.c1
 have c2 := B5.c2
 have c3 := B5.c3
 have z2 := B5.z2
 have hcx : W5.cell? ⟨k, K, none⟩ = some (.int .i64 x) := by
  have h := typ5.cellAt K (by omega)
  rw [vals_get, List.getElem?_eq_getElem (by omega)] at h
  rw [h, ← hx, List.getD_eq_getElem?_getD, List.getElem?_eq_getElem (by omega)]
  rfl
 have S0 : PutF w.heap.size zb k K g n' cap z.f z.t A x (.slice (some ⟨k, 0, none⟩) tn tk) W5 := ⟨at5, c0, c1, c2, c3, hcx⟩
 have S1 : PutF w.heap.size zb k K g n' cap z.f z.t A x (.slice (some ⟨k, 0, none⟩) tn tk) { W5 with drawn := W5.drawn + 1 } := S0.below (Below.refl _ _).drew
 have m1 : ∀ wx, PutF w.heap.size zb k K g n' cap z.f z.t A x (.slice (some ⟨k, 0, none⟩) tn tk) wx → wx.cell? ⟨w.heap.size, 0, none⟩ = some (.int .i64 A) := fun wx h => h.a
 have m2 : ∀ wx, PutF w.heap.size zb k K g n' cap z.f z.t A x (.slice (some ⟨k, 0, none⟩) tn tk) wx → wx.cell? ⟨zb, 0, none⟩ = some (.int .i64 z.f) := fun wx h => h.c0
 have m3 : ∀ wx, PutF w.heap.size zb k K g n' cap z.f z.t A x (.slice (some ⟨k, 0, none⟩) tn tk) wx → wx.cell? ⟨zb, 1, none⟩ = some (.int .i64 z.t) := fun wx h => h.c1
 have m4 : ∀ wx, PutF w.heap.size zb k K g n' cap z.f z.t A x (.slice (some ⟨k, 0, none⟩) tn tk) wx → wx.cell? ⟨zb, 2, none⟩ = some (.slice (some ⟨g, 0, none⟩) n' cap) := fun wx h => h.c2
 have m5 : ∀ wx, PutF w.heap.size zb k K g n' cap z.f z.t A x (.slice (some ⟨k, 0, none⟩) tn tk) wx → wx.cell? ⟨zb, 3, none⟩ = some (.slice (some ⟨k, 0, none⟩) tn tk) := fun wx h => h.c3
 have m6 : ∀ wx, PutF w.heap.size zb k K g n' cap z.f z.t A x (.slice (some ⟨k, 0, none⟩) tn tk) wx → wx.cell? ⟨k, K, none⟩ = some (.int .i64 x) := fun wx h => h.e
 have HG : Hid (∀ V, Below W5.heap.size W5 V → Calls Tryz.prog 102 #[.agg #[.int .i64 z.f, .int .i64 z.t, .slice (some ⟨g, 0, none⟩) n' cap, .slice (some ⟨k, 0, none⟩) tn tk], .int .i64 A] V fun e w' => e = .returned (.int .i64 K) ∧ Below W5.heap.size W5 w') := fun V hV => by
  rw [← hK]
  refine (group_any V z.f z.t _ _ n' cap tn tk A n1 a4 (by omega)).mono ?_
  rintro e w' ⟨rfl, hb⟩
  exact ⟨rfl, hV.trans (hb.mono hV.size)⟩
 have HI : Hid (∀ w6, Below W5.heap.size W5 w6 → Calls Tryz.prog 68 #[.slice (some ⟨g, 0, none⟩) n' cap, .int .i64 (n' : Int), .slice (some ⟨w6.heap.size, 0, none⟩) 1 1] (w6.alloc (.cells #[.int .i64 A, .int .i64 O, .int .i64 x] 40)) fun e w7 => RetRow (w6.alloc (.cells #[.int .i64 A, .int .i64 O, .int .i64 x] 40)) w7 base g (n' + 1) (insB L n' ⟨A, O, x⟩) e) := fun w6 hb6 => by
  refine bIns_any _ base g n' cap n' w6.heap.size L ⟨A, O, x⟩ (by omega) (by omega) (owns_below (owns_below own5 hb6 (Nat.le_refl _)) (below_box _ _) (Nat.le_refl _)) (heap_alloc_new _ _) (by have := hb6.size; omega)
 have HADD : Hid (backZ z a o = ⟨z.f, z.t, insB L n' ⟨A, O, x⟩, z.types⟩) := by
  show _ = _
  rw [HR.out, hK, show ((K : Int)).toNat = K from rfl, hx, addB_at (by omega) hI1 hI2]
 clear hI1 hI2 HR hK hx
 have hBd := (Below.refl W5.heap.size W5).drew
 go_wp2_with fail
 refine wp_region_peel (S := fun wx => PutF w.heap.size zb k K g n' cap z.f z.t A x (.slice (some ⟨k, 0, none⟩) tn tk) wx) 24 _ (by kernel_rfl) (by kernel_rfl) rfl ?_
 simp only [List.take_succ_cons, List.take_zero]
 refine tkH 0 (.pointer (some ⟨zb, 0, none⟩)) S1 (h:=?_)
 refine tkH 1 (.pointer (some ⟨zb, 0, none⟩)) S1 (h:=?_)
 refine tkH 2 (.pointer (some ⟨zb, 0, none⟩)) S1 (h:=?_)
 refine tkH 3 (.pointer (some ⟨zb, 2, none⟩)) S1 (h:=?_)
 refine tkH 4 (.slice (some ⟨g, 0, none⟩) n' cap) S1 (h:=?_)
 refine tkH 5 (.int .i64 (n' : Int)) S1 (h:=?_)
 refine tkH 6 (.int .i64 A) S1 (h:=?_)
 refine tkH 7 (.int .i64 O) S1 (h:=?_)
 refine tkH 8 (.pointer (some ⟨zb, 0, none⟩)) S1 (h:=?_)
 refine tkH 9 (.pointer (some ⟨zb, 0, none⟩)) S1 (h:=?_)
 refine tkH 10 (.pointer (some ⟨zb, 3, none⟩)) S1 (h:=?_)
 refine tkH 11 (.slice (some ⟨k, 0, none⟩) tn tk) S1 (h:=?_)
 refine tkH 12 (.pointer (some ⟨zb, 0, none⟩)) S1 (h:=?_)
 refine tkH 13 (.pointer (some ⟨zb, 0, none⟩)) S1 (h:=?_)
 refine tkH 14 (.agg #[.int .i64 z.f, .int .i64 z.t, .slice (some ⟨g, 0, none⟩) n' cap, .slice (some ⟨k, 0, none⟩) tn tk]) S1 (h:=?_)
 refine tkH 15 (.int .i64 A) S1 (h:=?_)
 refine oneH 16 (by kernel_rfl) rfl rfl (fun K1 hK1 => ?_)
 go_simp
 refine (HG.out _ hBd).mono ?_
 rintro e w6 ⟨rfl, hb6⟩
 have hS6 := S0.below hb6
 refine hK1 _ _ hS6 ?_
 try simp only [Act.put, List.setIfInBounds_toArray, List.set_cons_zero, List.set_cons_succ]
 refine tkH 17 (.pointer (some ⟨k, K, none⟩)) hS6 (h:=?_)
 refine tkH 18 (.int .i64 x) hS6 (h:=?_)
 refine tkH 19 (.agg #[.int .i64 A, .int .i64 O, .int .i64 x]) hS6 (h:=?_)
 refine oneH 20 (by kernel_rfl) rfl rfl (fun K2 hK2 => ?_)
 go_simp
 have hS6' := hS6.below (below_box w6 (.cells #[.int .i64 A, .int .i64 O, .int .i64 x] 40))
 refine hK2 _ _ hS6' ?_
 try simp only [Act.put, List.setIfInBounds_toArray, List.set_cons_zero, List.set_cons_succ]
 refine oneH 21 (by kernel_rfl) rfl rfl (fun K3 hK3 => ?_)
 go_simp
 refine (HI.out _ hb6).mono ?_
 rintro e w7 ⟨g', cap', rfl, ow7, hb7, hg7⟩
 have B7 := ((B5.below hb6).below (below_box w6 (.cells #[.int .i64 A, .int .i64 O, .int .i64 x] 40))).but hb7 (Ne.symm Z2.gz)
 have f2 := B7.c2
 have f2z := B7.z2
 have hS7 := hS6'.but hb7 gab2 (Ne.symm Z2.gz) (Ne.symm Z2.gk)
 refine hK3 _ _ hS7 ?_
 try simp only [Act.put, List.setIfInBounds_toArray, List.set_cons_zero, List.set_cons_succ]
 refine tkH 22 (.pointer (some ⟨zb, 0, none⟩)) hS7 (h:=?_)
 refine tkH 23 (.pointer (some ⟨zb, 2, none⟩)) hS7 (h:=?_)
 refine wpAnyH_done (by kernel_rfl) ?_ _
 show Oper.wp _ _ _ _ _ _
 all_goals
  have typ7 := own_but (owns_below (owns_below typ5 hb6 (Nat.le_refl _)) (below_box w6 (.cells #[.int .i64 A, .int .i64 O, .int .i64 x] 40)) (Nat.le_refl _)) hb7 (Ne.symm Z2.gk)
  have hs6 := hb6.size
  have hs7 : w6.heap.size + 1 ≤ w7.heap.size := by have := hb7.size; simpa using this
  have hg7' : g' = g ∨ w6.heap.size + 1 ≤ g' := by simpa using hg7
  have hbt : But zb w7 (w7.setCell ⟨zb, 2, none⟩ (.slice (some ⟨g', 0, none⟩) (n' + 1) cap')) := (But.refl _ _).setCell _
  have hgz' : g' ≠ zb := by rcases hg7' with h | h; rw [h]; exact Z2.gz; omega
  have hgk' : g' ≠ k := by rcases hg7' with h | h; rw [h]; exact Z2.gk; omega
  have ZF : Zo (w7.setCell ⟨zb, 2, none⟩ (.slice (some ⟨g', 0, none⟩) (n' + 1) cap')) base zb g' (n' + 1) cap' k tn tk ⟨z.f, z.t, insB L n' ⟨A, O, x⟩, z.types⟩ := ⟨B7.set2 _, own_but ow7 hbt hgz', own_but typ7 hbt Z2.kz, hgz', Z2.kz, hgk'⟩
  have hU : Bu2 g zb w (w7.setCell ⟨zb, 2, none⟩ (.slice (some ⟨g', 0, none⟩) (n' + 1) cap')) := (((hU5.trans (.of_below hb6)).trans (.of_below (below_box w6 (.cells #[.int .i64 A, .int .i64 O, .int .i64 x] 40)))).trans (.of_but_g hb7)).trans (.of_but_z hbt)
  have hgF : g' = g ∨ w.heap.size ≤ g' := by rcases hg7' with h | h; exact .inl h; exact .inr (by omega)
  clear hS6 hS6' hS7 HG HI m1 m2 m3 m4 m5 m6 S0 S1 B5 own5 typ5 c0 c1 c2 c3
  go_wp2
  go_ret
  rw [HADD.out]
  exact ⟨rfl, g', n' + 1, cap', ZF, hgF, hU⟩
structure CbI (w : World) (fo : Option Addr) (fn fc : Nat) (to_ : Option Addr) (tn tc : Nat) (z : Zn) (W : World) : Prop where
 b : Below w.heap.size w W
 box : ZBox W w.heap.size (.int .i64 z.f) (.int .i64 z.t) (.slice fo fn fc) (.slice to_ tn tc)
 zn : ZnAt W fo fn to_ tn z
 res : Res4 W (w.heap.size + 1)
 size : w.heap.size + 2 ≤ W.heap.size
theorem CbI.step {w : World} {fo : Option Addr} {fn fc : Nat} {to_ : Option Addr} {tn tc : Nat} {z : Zn} {W W' : World} (h : CbI w fo fn fc to_ tn tc z W) (hb : Below W.heap.size W W') : CbI w fo fn fc to_ tn tc z W' :=
 ⟨h.b.trans (hb.mono h.b.size), h.box.below hb, h.zn.below hb, h.res.below hb, Nat.le_trans h.size hb.size⟩
theorem cbI_first (w : World) (fo : Option Addr) (fn fc : Nat) (to_ : Option Addr) (tn tc : Nat) (z : Zn) (h : ZnAt w fo fn to_ tn z) : CbI w fo fn fc to_ tn tc z ((w.alloc (.cells #[.int .i64 z.f, .int .i64 z.t, .slice fo fn fc, .slice to_ tn tc] 54)).alloc (.cells #[.int .i64 0, .int .i64 0, .slice none 0 0, .slice none 0 0] 54)) := by
 have hb2 : Below w.heap.size w ((w.alloc (.cells #[.int .i64 z.f, .int .i64 z.t, .slice fo fn fc, .slice to_ tn tc] 54)).alloc (.cells #[.int .i64 0, .int .i64 0, .slice none 0 0, .slice none 0 0] 54)) := ((Below.refl _ _).alloc (Nat.le_refl _) _).alloc (by simp) _
 refine ⟨hb2, (zbox_new w _ _ _ _ _).below (below_box _ _), h.below hb2, ?_, by simp⟩
 have := zbox_new (w.alloc (.cells #[.int .i64 z.f, .int .i64 z.t, .slice fo fn fc, .slice to_ tn tc] 54)) (.int .i64 0) (.int .i64 0) (.slice none 0 0) (.slice none 0 0) 54
 have h2 := this.res
 simpa using h2
theorem zo_new {w3 : World} {B g k fn tn : Nat} {z : Zn} (o1 : w3.ownsRow B 40 3 (.slice (some ⟨g, 0, none⟩) fn fn) fn (bvals z.free)) (o2 : w3.ownsRow B 3 1 (.slice (some ⟨k, 0, none⟩) tn tn) tn (vals z.types)) (hgk : g ≠ k) :
    Zo (w3.alloc (.cells #[.int .i64 z.f, .int .i64 z.t, .slice (some ⟨g, 0, none⟩) fn fn, .slice (some ⟨k, 0, none⟩) tn tn] 54)) B w3.heap.size g fn fn k tn tn z := by
 have hbx := below_box w3 (.cells #[.int .i64 z.f, .int .i64 z.t, .slice (some ⟨g, 0, none⟩) fn fn, .slice (some ⟨k, 0, none⟩) tn tn] 54)
 have h1 : g < w3.heap.size := (o1.lt _ rfl).2
 have h2 : k < w3.heap.size := (o2.lt _ rfl).2
 exact ⟨zbox_new _ _ _ _ _ _, owns_below o1 hbx (Nat.le_refl _), owns_below o2 hbx (Nat.le_refl _), by omega, by omega, hgk⟩
theorem backGo_len (n : Nat) (l : List Bk) (a o : Int) : (backGo n l a o).1.length ≤ l.length := by
 induction n generalizing l a o with
 | zero => exact Nat.le_refl _
 | succ n ih =>
  unfold backGo
  split
  ·exact Nat.le_trans (ih _ _ _) (dropB_len _ _ _)
  exact Nat.le_refl _
theorem backZ_len (z : Zn) (a o : Int) : (backZ z a o).free.length ≤ z.free.length + 1 := by
 show (addB _ _).length ≤ _
 rw [addB_len]
 have := backGo_len (4 - o).toNat z.free a o
 omega
theorem zBack_ok (w : World) (fo : Option Addr) (fn fc : Nat) (to_ : Option Addr) (tn tc : Nat) (z : Zn) (a o : Int) (h : ZnAt w fo fn to_ tn z) (hM : ZMay z) (hA : blkIn z.f z.t a o) (hv : ¬ ovlP z.free a o) :
    Calls Tryz.prog 84 #[.agg #[.int .i64 z.f, .int .i64 z.t, .slice fo fn fc, .slice to_ tn tc], .int .i64 a, .int .i64 o] w fun e w' => RetZone w.heap.size w' (backZ z a o) e ∧ Below w.heap.size w w' := by
 have I0 := cbI_first w fo fn fc to_ tn tc z h
 have c0 := I0.box.c0
 have c1 := I0.box.c1
 have c2 := I0.box.c2
 have c3 := I0.box.c3
 have hB2 : Hid (blkB z.f z.t a o = true) := (blkB_iff z.f z.t a o).2 hA
 have htr := h.types.reach
 have hbl := may_len hM
 obtain ⟨Y, hY⟩ : ∃ Y, backZ z a o = Y := ⟨_, rfl⟩
 have hlenB : Y.free.length ≤ 257 := by rw [← hY]; have := backZ_len z a o; omega
 rw [hY]
 have HY : Hid _ := hY
 clear h hY
 go_enter Tryz.func84, Tryz.ntmps84
 go_wp2_with fail
 go_at_call 49
 refine (zCheck_ok _ fo fn fc to_ tn tc z I0.zn hM).mono ?_
 rintro e w1 ⟨rfl, hb⟩
 have I1 := I0.step hb
 clear I0 hb c0 c1 c2 c3
 have c0 := I1.box.c0
 have c1 := I1.box.c1
 have c2 := I1.box.c2
 have c3 := I1.box.c3
 go_wp2_with fail
 go_at_call 94
 refine (blkMay_any _ z.f z.t fo to_ fn fc tn tc a o hM.new).mono ?_
 rintro e w2 ⟨rfl, hb2⟩
 rw [hB2.out]
 have I2 := I1.step hb2
 clear I1 hb2 c0 c1 c2 c3
 have c0 := I2.box.c0
 have c1 := I2.box.c1
 have c2 := I2.box.c2
 have c3 := I2.box.c3
 go_wp2_with fail
 go_at_call 60
 refine (zCopy_own _ fo fn fc to_ tn tc z I2.zn).mono ?_
 rintro e w3 ⟨g, k, rfl, o1, o2, hgk, hb3⟩
 have I3 := I2.step hb3
 have hf1 := owns_fresh o1 _ rfl
 have hf2 := owns_fresh o2 _ rfl
 have Z4 := zo_new o1 o2 hgk
 have hbx := below_box w3 (.cells #[.int .i64 z.f, .int .i64 z.t, .slice (some ⟨g, 0, none⟩) fn fn, .slice (some ⟨k, 0, none⟩) tn tn] 54)
 have I4 := I3.step hbx
 have hs2 := I2.size
 have hs3 := I3.size
 have HP := put_ok _ _ w3.heap.size g fn fn k tn tn z a o Z4 hM hA hv
 have hgl := Z4.glt
 obtain ⟨W4, hW4⟩ : ∃ W4, w3.alloc (.cells #[.int .i64 z.f, .int .i64 z.t, .slice (some ⟨g, 0, none⟩) fn fn, .slice (some ⟨k, 0, none⟩) tn tn] 54) = W4 := ⟨_, rfl⟩
 rw [hW4] at I4 HP hgl
 have HW4 : Hid _ := hW4
 rw [HY.out] at HP
 dsimp only at hf1 hf2
 clear I2 I3 hb3 c0 c1 c2 c3 o1 o2 hbx Z4 hW4
 go_wp2_with (rw [HW4.out])
 go_at_call 98
 refine HP.mono ?_
 rintro e w5 ⟨rfl, g', n', cap', Z5, hg', hU⟩
 have hs4 := I4.size
 have R1 := hU.res I4.res (by omega) (by omega)
 have hB : Below w.heap.size w w5 := I4.b.trans (hU.below (by omega) (by omega) (by omega))
 obtain ⟨⟨x0, d0⟩, ⟨x1, d1⟩, ⟨x2, d2⟩, ⟨x3, d3⟩, z0, z1, z2, z3⟩ := id R1
 have y0 := Z5.box.c0
 have y1 := Z5.box.c1
 have y2 := Z5.box.c2
 have y3 := Z5.box.c3
 have hs5 := hU.size
 have hgB : w.heap.size + 2 ≤ g' := by rcases hg' with e | e <;> omega
 have B7 := blks_own Z5.own (by have := bowns_len Z5.own; omega)
 have N7 := nums_of_owns Z5.typ htr
 clear I4 HP HW4
 go_wp2
 obtain ⟨k0, k1, k2, k3⟩ := res4 R1 (.int .i64 Y.f) (.int .i64 Y.t) (.slice (some ⟨g', 0, none⟩) n' cap') (.slice (some ⟨k, 0, none⟩) tn tn)
 have hbt := but4 w5 (w.heap.size + 1) (.int .i64 Y.f) (.int .i64 Y.t) (.slice (some ⟨g', 0, none⟩) n' cap') (.slice (some ⟨k, 0, none⟩) tn tn)
 exact bodyPost_ret (v := .tuple #[.agg #[.int .i64 Y.f, .int .i64 Y.t, .slice (some ⟨g', 0, none⟩) n' cap', .slice (some ⟨k, 0, none⟩) tn tn], .int .i64 0]) (by simp [results, Tryz.results84, go_sem, k0, k1, k2, k3]) rfl ⟨⟨_, _, _, _, _, _, rfl, hbt.zn ⟨B7, N7⟩ (fun a ha => by cases ha; dsimp only; omega) (fun a ha => by cases ha; dsimp only; omega), fun a ha => by cases ha; dsimp only; omega, fun a ha => by cases ha; dsimp only; omega⟩, hB.trans (hbt.below (by omega) (by omega))⟩
structure AwayF (b : Nat) (y : Hx) : Prop where
 f : ∀ z ∈ y.zs, 0 < z.z.free.length → ∀ a, z.fo = some a → a.block ≠ b
 t : ∀ z ∈ y.zs, 0 < z.z.types.length → ∀ a, z.to_ = some a → a.block ≠ b
theorem AwayF.setZ {b i : Nat} {y : Hx} {z : Zc} (h : AwayF b y) (h1 : ∀ a, z.fo = some a → a.block ≠ b) (h2 : ∀ a, z.to_ = some a → a.block ≠ b) : AwayF b (y.setZ i z) := by
 refine ⟨fun c hc h0 => ?_, fun c hc h0 => ?_⟩ <;> rcases List.mem_or_eq_of_mem_set hc with hc | rfl
 ·exact h.f c hc h0
 ·exact h1
 ·exact h.t c hc h0
 exact h2
theorem pBackF_ok (w : World) (B gz hbk : Nat) (y : Hx) (p o : Int) (rh : w.heap[hbk]? = some (.cells #[.slice y.zo y.zn y.zc, .slice y.mo y.mn y.mc, .int .i64 y.cpus, .slice y.lo y.ln y.lc, .slice y.vo y.vn y.vc] 34 (0, 0))) (HY : HZ w B gz y) (hne : hbk ≠ gz) (hc : CanBack y.hp p o) :
    Calls Tryz.prog 61 #[.pointer (some ⟨hbk, 0, none⟩), .int .i64 p, .int .i64 o] w fun e w' => e = .returned (.int .i64 0) ∧ ∃ z, z.z = backZ (y.zs.getD (zIdx y.hp p) .zero).z p o ∧ HZ w' B gz (y.setZ (zIdx y.hp p) z) ∧ But gz w w' ∧ (∀ b, b < w.heap.size → AwayF b y → AwayF b (y.setZ (zIdx y.hp p) z)) := by
 have HY0 := HY.at_
 have hin : zIdx y.hp p < y.zn := by have := zIdx_lt y.hp p; have e : y.hp.zones.length = y.zs.length := (by show (y.zs.map _).length = _; rw [List.length_map]); have := hc.n; have := HY.at_.zones.len; omega
 have hzn : y.zn = 2 := by have e : y.hp.zones.length = y.zs.length := (by show (y.zs.map _).length = _; rw [List.length_map]); have := hc.n; have := HY.at_.zones.len; omega
 have hgz : gz < w.heap.size := HY.lt (by omega)
 have hM := hc.m
 have hA := hc.i
 have hv := hc.v
 rw [hp_zone] at hM hA hv
 have hrl := row_lt rh
 obtain ⟨i, hi⟩ : ∃ i, zIdx y.hp p = i := ⟨_, rfl⟩
 rw [hi] at hin hM hA hv
 have ez := HY.ez
 obtain ⟨gi, oi, zi, foi, fni, fci, toi, tni, tci, hai, c0i, c1i, c2i, c3i, hati, hXi⟩ := HY.at_.zones.at (i) (by omega)
 replace c0i := St.of c0i; replace c1i := St.of c1i; replace c2i := St.of c2i; replace c3i := St.of c3i
 have hXe : (y.zs.getD i .zero).z = zi := by rw [hXi.out]
 rw [ez] at hai; simp only [Option.some.injEq, Addr.mk.injEq, and_true] at hai; obtain ⟨rfl, rfl⟩ := hai
 have B0 := Below.refl w.heap.size w
 refine sx_enter (args := [_, _, _]) 38 Tryz.func61 rfl rfl rfl ?_
 refine vS (vR (vla (h:=vW (vS (vR (vlm (h:=vli (h:=vl5 (rowq rh) (h:=vlm (h:=vlc (by have e := pZoneOf_c _ y p HY.at_ hzn; rw [hi] at e; exact e) (h:=?_))))))))))); intro W2 hb1; replace B0 := Below.next B0 hb1; replace HY := HY.below hb1; replace rh := row_next rh hb1
 refine vla (h:=vW (vS (vR (vlm (h:=vli (h:=vlf (h:=vl1 (rowq rh) (h:=vlm (h:=vlx (h:=vld (y_loadN (vs := [_, _, _, _]) rfl rfl (ag rfl) rfl ⟨(by first | assumption | exact St.q c0i B0 | exact St.q c1i B0 | exact St.q c2i B0 | exact St.q c3i B0), (by first | assumption | exact St.q c0i B0 | exact St.q c1i B0 | exact St.q c2i B0 | exact St.q c3i B0), (by first | assumption | exact St.q c0i B0 | exact St.q c1i B0 | exact St.q c2i B0 | exact St.q c3i B0), (by first | assumption | exact St.q c0i B0 | exact St.q c1i B0 | exact St.q c2i B0 | exact St.q c3i B0), trivial⟩) (h:=vlm (h:=vlm (h:=?_)))))))))))))
 have lz_hbk := row_lt rh
 intro A f
 refine l_call f rfl rfl rfl (IsCall.mk' (cap := []) rfl rfl rfl) (pl rfl) (zBack_ok _ _ _ _ _ _ _ zi p o (hati.below B0) (hXe ▸ hM) (hXe ▸ hA) (hXe ▸ hv)) ?_
 clear f A
 rintro _ W4 ⟨⟨fo2, fn2, fc2, to2, tn2, tc2, rfl, hz2, hf2, ht2⟩, hb3⟩
 refine ⟨_, rfl, ?_⟩
 have hg1 := B0.size
 intro A f
 replace B0 := Below.next B0 hb3; replace HY := HY.below hb3; replace rh := row_next rh hb3
 obtain ⟨Y, hY⟩ : ∃ Y, backZ zi p o = Y := ⟨_, rfl⟩
 rw [hY] at f hz2
 revert A; refine vlm (h:=vle (h:=vle (h:=?_))); intro A f
 refine l_as (z := .agg #[.int .i64 0, .int .i64 0, .slice none 0 0, .slice none 0 0]) f rfl rfl rfl rfl (by kernel_rfl) rfl rfl (fun _ => rfl) (fun _ => rfl) rfl (by intro u hu; simp [Value.cells] at hu; rcases hu with rfl | rfl | rfl | rfl <;> rfl) ?_; clear f A; intro b5 W6 eb5 hb7 rb5 A f
 dsimp only [Value.cells] at rb5
 have hpb5 := hb7
 have o_hbk_b5 : hbk < b5 := by have := row_lt rh; omega
 have z_B0_b5 := B0.size; rw [eb5] at z_B0_b5
 replace B0 := Below.next B0 hb7; replace HY := HY.below hb7; replace hz2 := hz2.below hb7; replace rh := row_next rh hb7
 revert A; refine vla (h:=vW (vS (vS (vR (vlm (h:=vlb (y_neq rfl rfl rfl) (h:=?_) (g:=?_)))))))
 ·intro c8; exfalso; omega
 intro c8
 refine vW (vD (h:=vK (vT (vS ?_))))
 have q_hbk := fun wx (h : But gz W6 wx) => But.row h rh (by omega)
 have q_b5 := fun wx (h : But gz W6 wx) => But.row h rb5 (by omega)
 have hSB : Below w.heap.size w W6 := B0
 intro A f
 refine sx_held (fun wx => But gz W6 wx) [7] (by kernel_rfl) (by kernel_rfl) (blind_then (blind_body)) (But.of_below ((Below.refl _ _).drew)) ?_
 generalize hWd : ({ W6 with drawn := W6.drawn + 1 } : World) = W9
 have hS := but_start gz hWd
 have hdr := drawn_b hWd
 clear hWd
 replace B0 := Below.next B0 hdr; replace HY := HY.below hdr; replace hz2 := hz2.below hdr; replace rh := row_next rh hdr; replace rb5 := row_next rb5 hdr
 revert A; refine vhm (h:=vhi (h:=vhf (h:=vh1 q_hbk (h:=vhm (h:=vh4 q_b5 (h:=vhx (h:=?_)))))))
 have oz := HY.oz
 intro A f
 rw [HY.ez] at oz
 refine h_storeR f rfl rfl rfl rfl rfl rfl (own_set4 oz hin (Zc.q ⟨Y, fo2, fn2, fc2, to2, tn2, tc2⟩) (Zc.one _) (sz rfl)) (fun _ h => hS.trans h.1) ?_
 rintro W10 ⟨hb11, ow⟩
 have HY2 := HY.set (i := i) (z := ⟨Y, fo2, fn2, fc2, to2, tn2, tc2⟩) hz2 (fun a ha e => by have := hf2 a ha; omega) (fun a ha e => by have := ht2 a ha; omega) hb11 (by rw [HY.ez]; exact ow)
 have hSf := hS.trans hb11
 revert A; refine vM (vT (vS (vR (vla (h:=vW (vE ?_)))))); intro A f
 refine x_ret1 f rfl rfl ?_
 exact ⟨rfl, ⟨Y, fo2, fn2, fc2, to2, tn2, tc2⟩, by rw [hi, hXe]; exact hY.symm, by rw [hi]; exact HY2, ((But.of_below hSB).trans hSf), fun (b : Nat) (hb : b < w.heap.size) (ha : AwayF b y) => AwayF.setZ (b := b) (z := ⟨Y, fo2, fn2, fc2, to2, tn2, tc2⟩) ha (fun a h => by have := hf2 a h; omega) (fun a h => by have := ht2 a h; omega)⟩
theorem pBackAllF_ok (w : World) (B gz hbk : Nat) (y : Hx) (po : Option Addr) (pn pc : Nat) (ps : List Int) (rh : w.heap[hbk]? = some (.cells #[.slice y.zo y.zn y.zc, .slice y.mo y.mn y.mc, .int .i64 y.cpus, .slice y.lo y.ln y.lc, .slice y.vo y.vn y.vc] 34 (0, 0))) (HY : HZ w B gz y) (hne : hbk ≠ gz) (hN : Nums w po pn ps) (hne2 : 0 < ps.length → ∀ a, po = some a → a.block ≠ gz) (hc : CanBacks y.hp ps) :
    Calls Tryz.prog 63 #[.pointer (some ⟨hbk, 0, none⟩), .slice po pn pc] w fun e w' => e = .returned (.int .i64 0) ∧ ∃ zs, (y.withZ zs).hp = backs y.hp ps ∧ HZ w' B gz (y.withZ zs) ∧ But gz w w' ∧ (∀ b, b < w.heap.size → AwayF b y → AwayF b (y.withZ zs)) := by
 have nr := hN.reach
 have B0 := Below.refl w.heap.size w
 refine sx_enter (args := [_, _]) 21 Tryz.func63 rfl rfl rfl ?_
 refine vS (vR (vla (h:=vW (vS (vS (vR (vlm (h:=vlz (h:=vlm (h:=vW (vB ?_))))))))))); intro A f
 refine x_loop (fun n A W => ∃ (k : Nat) (zs : List Zc), n = pn - k ∧ k ≤ pn ∧ Fr A 21 [(0, .pointer (some ⟨hbk, 0, none⟩)), (8, .slice po pn pc), (9, .int .i64 (pn : Nat)), (10, .int .i64 (k : Nat))] ∧ HZ W B gz (y.withZ zs) ∧ (y.withZ zs).hp = backs y.hp (ps.take k) ∧ But gz w W ∧ (∀ b, b < w.heap.size → AwayF b y → AwayF b (y.withZ zs))) (n0 := pn) (⟨0, y.zs, rfl, Nat.zero_le _, f.sub ⟨rfl, rfl, rfl, rfl, trivial⟩, HY.below B0, rfl, But.of_below B0, fun _ _ h => h⟩) ?_
 clear f A
 clear B0
 rintro n A W1 ⟨k, zs, hn, hk, f, HYk, hhp, hbt, haw⟩
 have BW := Below.refl W1.heap.size W1
 have hNk := nums_but hN hbt hne2
 have rhk := But.row hbt rh hne
 revert A; refine vS (vR (vlb (y_lss rfl rfl rfl) (h:=?_) (g:=?_)))
 ·intro c2
  refine vW (vS (vC (h:=vK (vT (vS (vB (vS (vR ?_))))))))
  obtain ⟨gg, og, vg, hag, c0g, hXg⟩ := hNk.at_.at (k) (by have := hNk.len; omega)
  replace c0g := St.of c0g
  intro A f
  rw [show og + k = og + k * 1 by omega] at c0g
  have hcb : CanBack (y.withZ zs).hp vg 0 := by rw [hhp]; exact canBacks_at hc (by have := hN.len; omega) hXg.out
  revert A; refine vlx (h:=vld (y_load1 rfl rfl (ag rfl) (by first | assumption | exact St.q c0g BW)) (h:=vla (h:=vW (vS (vR (vlm (h:=vlm (h:=?_)))))))); intro A f
  refine l_call f rfl rfl rfl (IsCall.mk' (cap := []) rfl rfl rfl) (pl rfl) (pBackF_ok _ B gz hbk (y.withZ zs) vg 0 (row_next rhk BW) (HYk.below BW) hne hcb) ?_
  clear f A
  rintro _ W3 ⟨rfl, zk, hzk, HY2, hb2, haw2⟩
  refine ⟨_, rfl, ?_⟩
  intro A f
  have hbt2 := hbt.trans hb2
  revert A; refine vla (h:=vW (vS (vR (vlm (h:=vlb (y_neq rfl rfl rfl) (h:=?_) (g:=?_))))))
  ·intro c4; exfalso; omega
  intro c4
  refine vW (vD (h:=vK (vU (vT (vR (vlA (h:=vlm (h:=vW ?_)))))))); intro A f
  exact ⟨pn - (k + 1), by omega, k + 1, _, rfl, by omega, f.sub ⟨rfl, rfl, rfl, rfl, trivial⟩, HY2, (setZ_hp hzk).trans (by rw [hhp, backs_take (by have := hN.len; omega) hXg.out]), hbt2, fun b hb h => haw2 b (by have := hbt.size; have := BW.size; omega) (haw b hb h)⟩
 intro c2
 refine vW (vS (vD (h:=vX (vH (vH (vI (vT (vS (vR (vla (h:=vW (vE ?_)))))))))))); intro A f
 refine x_ret1 f rfl rfl ?_
 exact ⟨rfl, zs, by rw [hhp, List.take_of_length_le (by have := hN.len; omega)], HYk, hbt, haw⟩
theorem nums_nil {w : World} {n : Nat} {xs : List Int} (h : Nums w none n xs) : n = 0 := by
 by_cases h0 : 0 < xs.length
 ·obtain ⟨b, o, e, _⟩ := h.at_ 0 h0
  cases e
 have := h.len; omega
theorem nums_take {w : World} {ao : Option Addr} {n k : Nat} {xs : List Int} (h : Nums w ao n xs) (hk : k ≤ n) : Nums w ao k (xs.take k) := by
 have hl := h.len
 have hr := h.reach
 refine ⟨by rw [List.length_take]; omega, by omega, fun i hi => ?_⟩
 rw [List.length_take] at hi
 obtain ⟨b, o, e, hc⟩ := h.at_ i (by omega)
 refine ⟨b, o, e, ?_⟩
 rw [hc]
 simp only [List.getD_eq_getElem?_getD]
 rw [List.getElem?_take_of_lt (by omega)]
theorem bs_int1 (a : Int) (w : World) : (Instr.buildSlice 30 1 #[(0, .int .i64 a)]).run Tryz.prog w = .ok (.slice (some ⟨w.heap.size, 0, none⟩) 1 1) (w.alloc (.cells #[.int .i64 a] 3)) := by
 simp [go_sem]
theorem lss_mem {H : Hp} (h : LssOk H) {l : Ls} (hl : l ∈ H.lists) : LsOk H l := by
 obtain ⟨i, hi, rfl⟩ := List.getElem_of_mem hl
 have := h.ok i hi
 rwa [List.getD_eq_getElem?_getD, List.getElem?_eq_getElem hi] at this
theorem AwayL.toF {b : Nat} {y : Hx} (h : AwayL b y) : AwayF b y := ⟨h.f, h.t⟩
theorem awayF_old {w : World} {b : Nat} {y : Hx} (h : y.At w) (hb : w.heap.size ≤ b) : AwayF b y := (awayL_old h hb).toF
theorem awayL_withZ {b : Nat} {y : Hx} {zs : List Zc} (h : AwayL b y) (f : AwayF b (y.withZ zs)) (h0 : 0 < y.zs.length) : AwayL b (y.withZ zs) :=
 ⟨fun _ => h.z h0, f.f, f.t, h.m, h.p, h.v⟩
theorem awayF_away {b : Nat} {y : Hx} {zs : List Zc} (h : Away b y) (f : AwayF b (y.withZ zs)) : Away b (y.withZ zs) := ⟨f.f, f.t, h.m, h.l, h.p, h.v⟩
theorem away_withL {b : Nat} {y : Hx} {ls : List Lc} {lo : Option Addr} {ln lc : Nat} (h : Away b y) (hl : 0 < ls.length → ∀ a, lo = some a → a.block ≠ b) (hm : ∀ l ∈ ls, l ∈ y.ls ∨ ∀ a, l.po = some a → a.block ≠ b) : Away b (y.withL ls lo ln lc) :=
 ⟨h.f, h.t, h.m, hl, fun l hl' h0 => (hm l hl').elim (fun g => h.p l g h0) (fun g => g), h.v⟩
theorem y_sliceTo {C : World → Prop} {L : List (Nat × Value)} {o : Oper} {x y : Operand} {ao : Option Addr} {n cap H : Nat} (ho : o.op = .slice 30 x none (some y) none) (hx : ev L x = some (.slice ao n cap)) (hy : ev L y = some (.int .i64 (H : Nat))) (hH : H ≤ cap) :
    YC Tryz.prog C L o (.slice ao H cap) := by
 intro ρ hρ wx _
 have e1 : (Go.sizeOf 3).run Tryz.prog wx = .ok 1 wx := Tryz.sizeOf3 wx
 have e : (Instr.sliceAt 30 (.slice ao n cap) none (some (.int .i64 (H : Nat))) none).run Tryz.prog wx = .ok (.slice ao H cap) wx := by
  cases ao <;> simp [Instr.sliceAt, Instr.slice, Instr.sliceBounds, Instr.sliceBound, run_under Tryz.underlying30, e1, go_sem, asIntOf, hH]
 simp [execOp, ho, hρ _ _ hx, hρ _ _ hy, e, go_sem]
theorem riseL_of {y : Hx} (h : LssOk y.hp) : RiseL y.ls := fun k h0 h1 => by
 have e : y.hp.lists.length = y.ls.length := by show (y.ls.map _).length = _; rw [List.length_map]
 have := h.ord k h0 (by omega)
 rw [show y.hp.lists = y.ls.map (·.l) from rfl, getD_l, getD_l] at this
 exact this
theorem app_own1 (w : World) (ty : TypeId) (B : Nat) (ao : Option Addr) (n cap : Nat) (ps : List Int) (p : Int) (gb : Nat) (ho : w.ownsRow B 3 1 (.slice ao n cap) n (vals ps)) (hn : n ≤ 300) (hb : w.heap[gb]? = some (.cells #[.int .i64 p] 3 (0, 0))) (hB : B ≤ w.heap.size) :
    ∃ g' c' W, (Builtin.append_ #[30, 30] ty #[.slice ao n cap, .slice (some ⟨gb, 0, none⟩) 1 1]).run Tryz.prog w = .ok (.slice (some ⟨g', 0, none⟩) (n + 1) c') W ∧ W.ownsRow B 3 1 (.slice (some ⟨g', 0, none⟩) (n + 1) c') (n + 1) (vals (ps ++ [p])) ∧ ((ao = some ⟨g', 0, none⟩ ∧ But g' w W) ∨ (g' = w.heap.size ∧ Below w.heap.size w W)) := by
 obtain ⟨i1, hj, hy0, hy1, hy2⟩ := info_parts info_int
 have hnews : ∀ j v, (vals [p])[j]? = some v → w.cell? ((⟨gb, 0, none⟩ : Addr).add j) = some v := by
  intro j v hjv
  rw [add_at, Nat.zero_add]
  simp only [World.cell?, hb]
  change ([Value.int .i64 p] : List Value)[j]? = some v at hjv
  simpa using hjv
 obtain ⟨g', c', W, hrun, ow, hcs⟩ := append_row (P := Tryz.prog) w B 30 ty 3 i1 _ 1 Tryz.underlying30 hj hy0 hy1 rfl ao n cap (vals ps) ho ⟨gb, 0, none⟩ 1 1 (vals [p]) rfl hnews (vals_oneCell _) (by omega) (by unfold maxLen; omega) (by rw [hy2]; omega) hB
 exact ⟨g', c', W, hrun, by rw [vals_append]; exact ow, hcs⟩
end Go.Proofs.YtjohdbiipeedkaaGreatDoor
