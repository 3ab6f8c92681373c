/-
  OWN TEXTS, bundled: RefHw, SameI, SameZ, SameH.
-/
import Derived.Test.YtbjlbmofdnkmiaaPagesNewPart11
import Derived.Test.YtbjlbmofdnkmiaaPagesNewPart14
import Derived.Test.YtbjlbmofdnkmiaaPagesNewPart16
import Derived.Test.YtbjlbmofdnkmiaaPagesNewPart4
import Derived.Test.YtbjlbmofdnkmiaaPagesNewPart5
import Derived.Test.YtbjlbmofdnkmiaaPagesNewPart3

/-
  OWN TEXT. The document's answer: HeapNew (written by sxnew2.py).
-/
namespace Go.Proofs.Ytbjlbmofdnkmiaa
open Go Go.RowKit Go.Proofs.Ytbjlbmofdnkmiaa.Kit

theorem inR_c (w : World) (ao : Option Addr) (n cap : Nat) (l : List (Int × Int)) (h : Regs w ao n l) (hM : MayP l) (p : Int) :
    Calls Try.prog 26 #[.slice ao n cap, .int .i64 p] w fun e w' => e = .returned (.bool (decide (inL l p = true))) ∧ Below w.heap.size w w' := by
  refine (inR_any w ao n cap l h.len (by have := h.len; have := hM.len; omega) h.at_ hM.ok p).mono ?_
  rintro e w' ⟨rfl, d, rfl⟩
  refine ⟨by simp, below_drawn d⟩

set_option maxRecDepth 10000 in
set_option maxHeartbeats 4000000 in
theorem heapNew_ok (w : World) (split least cpus : Int) (ao : Option Addr) (n cap : Nat) (l : List (Int × Int)) (hR : Regs w ao n l) (hM : MayP l) (hn0 : newOk 0 split) :
    Calls Try.prog 9 #[.slice ao n cap, .int .i64 split, .int .i64 least, .int .i64 cpus] w fun e w' => ((¬ newGood least cpus ∧ e = .returned (.tuple #[.agg #[.slice none 0 0, .slice none 0 0, .int .i64 0, .slice none 0 0, .slice none 0 0], .int .i64 1])) ∨ (newGood least cpus ∧ ∃ y : Hx, e = .returned (.tuple #[.agg #[.slice y.zo y.zn y.zc, .slice y.mo y.mn y.mc, .int .i64 y.cpus, .slice y.lo y.ln y.lc, .slice y.vo y.vn y.vc], .int .i64 0]) ∧ NewH y.hp l split least cpus ∧ y.At w')) ∧ Below w.heap.size w w' := by
  have hn1 := newOk_high hn0
  have HMa : ∀ W, Regs W ao n l → Calls Try.prog 23 #[.slice ao n cap] W fun e w' => e = .returned (.bool true) ∧ Below W.heap.size W w' := fun W h => (may_any W ao n cap l h).mono fun e w' h1 => by
    obtain ⟨⟨r, rfl, h2⟩, hb⟩ := h1
    rw [h2.2 hM]
    exact ⟨rfl, hb⟩
  obtain ⟨N6, hN6⟩ : ∃ N : Nat, N = 256 := ⟨_, rfl⟩
  obtain ⟨Z0, hZ0, HZ0⟩ : ∃ Z, ZNew Z 0 split (inQ l 0 split ((0 : Nat) : Int)) ∧ ∀ W, Calls Try.prog 24 #[.int .i64 0, .int .i64 split] W fun e w' => RetZone W.heap.size w' Z e ∧ Below W.heap.size W w' :=
    ⟨newZ 0 split, (znew_zero hn0).congr (fun p => (inQ_zero (Int.le_refl 0) p).symm), fun W => zoneNew_ok W 0 split hn0⟩
  obtain ⟨Z1, hZ1, HZ1⟩ : ∃ Z, ZNew Z split 256 (inQ l split 256 ((0 : Nat) : Int)) ∧ ∀ W, Calls Try.prog 24 #[.int .i64 split, .int .i64 256] W fun e w' => RetZone W.heap.size w' Z e ∧ Below W.heap.size W w' :=
    ⟨newZ split 256, (znew_zero hn1).congr (fun p => (inQ_zero hn0.2.1 p).symm), fun W => zoneNew_ok W split 256 hn1⟩
  have B0 := Below.refl w.heap.size w
  refine sx_enter (args := [_, _, _, _]) 73 Try.func9 rfl rfl rfl ?_
  intro A f
  refine wp_seq ?_
  refine sx_list ?_
  refine l_alloc (z := .agg #[.slice none 0 0, .slice none 0 0, .int .i64 0, .slice none 0 0, .slice none 0 0]) f rfl rfl rfl rfl (by kernel_rfl) ?_; clear f A; intro b1 W2 eb1 hb3 rb1 A f; dsimp only [Value.cells] at rb1
  have z_B0_b1 := B0.size; rw [eb1] at z_B0_b1
  replace B0 := Below.next B0 hb3
  refine l_do f rfl rfl rfl (y_assign rfl rfl) ?_; clear f A; intro A f
  refine wpList_nil ?_
  refine x_tn ?_
  refine wp_seq ?_
  refine wp_seq ?_
  refine sx_list ?_
  refine l_do f rfl rfl rfl (y_move rfl rfl) ?_; clear f A; intro A f
  refine l_call f rfl rfl rfl (IsCall.mk' (cap := []) rfl rfl rfl) (pl rfl) (HMa _ (hR.below B0)) ?_; clear f A; rintro _ W4 ⟨rfl, hb5⟩; refine ⟨_, rfl, ?_⟩; intro A f; replace B0 := Below.next B0 hb5; replace rb1 := row_next rb1 hb5
  refine l_do f rfl rfl rfl (y_not rfl rfl) ?_; clear f A; intro A f
  refine wpList_nil ?_
  refine x_tn ?_
  refine x_condF f rfl ?_
  refine wp_skip ?_
  refine x_tn ?_
  refine wp_seq ?_
  refine sx_list ?_
  refine l_do f rfl rfl rfl (y_move rfl rfl) ?_; clear f A; intro A f
  have lz_b1 := row_lt rb1
  have lzB := B0.size
  refine l_call f rfl rfl rfl (IsCall.mk' (cap := []) rfl rfl rfl) (pl rfl) (HZ0 _) ?_
  clear f A
  rintro _ W6 ⟨⟨foz0, fn0, fc0, to0, tn0, tc0, rfl, hz0, hf0, ht0⟩, hb7⟩
  refine ⟨_, rfl, ?_⟩
  intro A f
  replace B0 := Below.next B0 hb7; replace rb1 := row_next rb1 hb7
  have hl0 := hz0
  refine l_do f rfl rfl rfl (y_move rfl rfl) ?_; clear f A; intro A f
  refine l_do f rfl rfl rfl (y_ext rfl rfl rfl) ?_; clear f A; intro A f
  refine l_do f rfl rfl rfl (y_ext rfl rfl rfl) ?_; clear f A; intro A f
  refine l_as (z := .agg #[.int .i64 0, .int .i64 0, .slice none 0 0, .slice none 0 0]) f rfl rfl rfl rfl (by kernel_rfl) rfl rfl (fun _ => rfl) (fun _ => rfl) rfl (by intro u hu; simp [Value.cells] at hu; rcases hu with rfl | rfl | rfl | rfl <;> rfl) ?_; clear f A; intro b8 W9 eb8 hb10 rb8 A f
  dsimp only [Value.cells] at rb8
  have hpb8 := hb10
  have o_b1_b8 : b1 < b8 := by have := row_lt rb1; omega
  have z_B0_b8 := B0.size; rw [eb8] at z_B0_b8
  replace B0 := Below.next B0 hb10; replace hz0 := hz0.below hb10; replace rb1 := row_next rb1 hb10
  refine l_do f rfl rfl rfl (y_assign rfl rfl) ?_; clear f A; intro A f
  refine wpList_nil ?_
  refine x_tn ?_
  refine wp_seq ?_
  refine wp_seq ?_
  refine sx_list ?_
  refine l_do f rfl rfl rfl (y_move rfl rfl) ?_; clear f A; intro A f
  refine l_if _ f rfl rfl rfl (y_neq rfl rfl rfl) ?_ ?_
  · intro c11; exfalso; omega
  · clear f A; intro c11 A f
    refine l_do f rfl rfl rfl (y_move rfl rfl) ?_; clear f A; intro A f
    refine l_do f rfl rfl rfl (y_move rfl rfl) ?_; clear f A; intro A f
    refine l_callif _ f rfl rfl rfl (IsCall.mk' (cap := []) rfl rfl rfl) (pl rfl) (in_c _ _ _ _) ?_ ?_
    · clear f A; intro c12 W14 hb13 A f
      replace B0 := Below.next B0 hb13; replace hz0 := hz0.below hb13; replace rb1 := row_next rb1 hb13; replace rb8 := row_next rb8 hb13
      refine l_do f rfl rfl rfl (y_not rfl rfl) ?_; clear f A; intro A f
      refine l_do f rfl rfl rfl (y_pick rfl rfl rfl) ?_; clear f A; intro A f
      refine l_do f rfl rfl rfl (y_move rfl rfl) ?_; clear f A; intro A f
      refine l_do f rfl rfl rfl (y_move rfl rfl) ?_; clear f A; intro A f
      refine l_callif _ f rfl rfl rfl (IsCall.mk' (cap := []) rfl rfl rfl) (pl rfl) (in_c _ _ _ _) ?_ ?_
      · clear f A; intro c15 W17 hb16 A f
        replace B0 := Below.next B0 hb16; replace hz0 := hz0.below hb16; replace rb1 := row_next rb1 hb16; replace rb8 := row_next rb8 hb16
        refine l_do f rfl rfl rfl (y_not rfl rfl) ?_; clear f A; intro A f
        refine l_do f rfl rfl rfl (y_pick rfl rfl rfl) ?_; clear f A; intro A f
        refine wpList_nil ?_
        refine x_tn ?_
        refine x_condF f rfl ?_
        refine wp_skip ?_
        refine x_tn ?_
        refine wp_seq ?_
        refine sx_list ?_
        refine l_do f rfl rfl rfl (y_move rfl rfl) ?_; clear f A; intro A f
        have lz_b1 := row_lt rb1
        have lz_b8 := row_lt rb8
        have lzB := B0.size
        refine l_call f rfl rfl rfl (IsCall.mk' (cap := []) rfl rfl rfl) (pl rfl) (HZ1 _) ?_
        clear f A
        rintro _ W18 ⟨⟨foz1, fn1, fc1, to1, tn1, tc1, rfl, hz1, hf1, ht1⟩, hb19⟩
        refine ⟨_, rfl, ?_⟩
        intro A f
        replace B0 := Below.next B0 hb19; replace hz0 := hz0.below hb19; replace rb1 := row_next rb1 hb19; replace rb8 := row_next rb8 hb19
        have hl1 := hz1
        refine l_do f rfl rfl rfl (y_move rfl rfl) ?_; clear f A; intro A f
        refine l_do f rfl rfl rfl (y_ext rfl rfl rfl) ?_; clear f A; intro A f
        refine l_do f rfl rfl rfl (y_ext rfl rfl rfl) ?_; clear f A; intro A f
        refine l_as (z := .agg #[.int .i64 0, .int .i64 0, .slice none 0 0, .slice none 0 0]) f rfl rfl rfl rfl (by kernel_rfl) rfl rfl (fun _ => rfl) (fun _ => rfl) rfl (by intro u hu; simp [Value.cells] at hu; rcases hu with rfl | rfl | rfl | rfl <;> rfl) ?_; clear f A; intro b20 W21 eb20 hb22 rb20 A f
        dsimp only [Value.cells] at rb20
        have hpb20 := hb22
        have o_b1_b20 : b1 < b20 := by have := row_lt rb1; omega
        have o_b8_b20 : b8 < b20 := by have := row_lt rb8; omega
        have z_B0_b20 := B0.size; rw [eb20] at z_B0_b20
        replace B0 := Below.next B0 hb22; replace hz0 := hz0.below hb22; replace hz1 := hz1.below hb22; replace rb1 := row_next rb1 hb22; replace rb8 := row_next rb8 hb22
        refine l_do f rfl rfl rfl (y_assign rfl rfl) ?_; clear f A; intro A f
        refine wpList_nil ?_
        refine x_tn ?_
        refine wp_seq ?_
        refine wp_seq ?_
        refine sx_list ?_
        refine l_do f rfl rfl rfl (y_assign rfl rfl) ?_; clear f A; intro A f
        refine wpList_nil ?_
        refine x_tn ?_
        refine wp_block ?_
        have ho0 : OffZ (fun q => q ≠ b1 ∧ q ≠ b8 ∧ q ≠ b20) foz0 to0 Z0 := ⟨fun h a ha => by have h1 := hf0 a ha; have h2 := blks_lt hl0.free h a ha; omega, fun h a ha => by have h1 := ht0 a ha; have h2 := nums_lt hl0.types h a ha; omega⟩
        have ho1 : OffZ (fun q => q ≠ b1 ∧ q ≠ b8 ∧ q ≠ b20) foz1 to1 Z1 := ⟨fun h a ha => by have h1 := hf1 a ha; have h2 := blks_lt hl1.free h a ha; omega, fun h a ha => by have h1 := ht1 a ha; have h2 := nums_lt hl1.types h a ha; omega⟩
        refine x_loop (fun m A W => ∃ (q : Nat) (Z0 : Zn) (foz0 : Option Addr) (fn0 fc0 : Nat) (to0 : Option Addr) (tn0 tc0 : Nat) (Z1 : Zn) (foz1 : Option Addr) (fn1 fc1 : Nat) (to1 : Option Addr) (tn1 tc1 : Nat), m = N6 - q ∧ q ≤ N6 ∧ Fr A 73 [(0, .slice ao n cap), (1, .int .i64 split), (2, .int .i64 least), (3, .int .i64 cpus), (8, .pointer (some ⟨b1, 0, none⟩)), (10, .pointer (some ⟨b8, 0, none⟩)), (12, .pointer (some ⟨b20, 0, none⟩)), (14, .int .i64 (q : Nat))] ∧ Below w.heap.size w W ∧ ZNew Z0 0 split (inQ l 0 split q) ∧ ZNew Z1 split 256 (inQ l split 256 q) ∧ ZnAt W foz0 fn0 to0 tn0 Z0 ∧ ZnAt W foz1 fn1 to1 tn1 Z1 ∧ OffZ (fun q => q ≠ b1 ∧ q ≠ b8 ∧ q ≠ b20) foz0 to0 Z0 ∧ OffZ (fun q => q ≠ b1 ∧ q ≠ b8 ∧ q ≠ b20) foz1 to1 Z1 ∧ W.heap[b1]? = some (.cells #[.slice none 0 0, .slice none 0 0, .int .i64 0, .slice none 0 0, .slice none 0 0] 28 (0, 0)) ∧ W.heap[b8]? = some (.cells #[.int .i64 Z0.f, .int .i64 Z0.t, .slice foz0 fn0 fc0, .slice to0 tn0 tc0] 44 (0, 0)) ∧ W.heap[b20]? = some (.cells #[.int .i64 Z1.f, .int .i64 Z1.t, .slice foz1 fn1 fc1, .slice to1 tn1 tc1] 44 (0, 0))) (n0 := N6) (⟨0, Z0, foz0, fn0, fc0, to0, tn0, tc0, Z1, foz1, fn1, fc1, to1, tn1, tc1, rfl, Nat.zero_le _, f.sub ⟨rfl, rfl, rfl, rfl, rfl, rfl, rfl, rfl, trivial⟩, B0, hZ0, hZ1, hz0, hz1, ho0, ho1, rb1, rb8, rb20⟩) ?_
        clear f A
        clear B0 hz0 hz1 ho0 ho1 hf0 ht0 hf1 ht1 hl0 hl1 hZ0 hZ1 HZ0 HZ1 rb1 rb8 rb20
        clear Z0 Z1
        rintro m A W23 ⟨q, Z0, foz0, fn0, fc0, to0, tn0, tc0, Z1, foz1, fn1, fc1, to1, tn1, tc1, hm, hq, f, B0, hZ0, hZ1, hz0, hz1, ho0, ho1, rb1, rb8, rb20⟩
        refine wp_seq ?_
        refine wp_seq ?_
        refine sx_list ?_
        refine l_do f rfl rfl rfl (y_move rfl rfl) ?_; clear f A; intro A f
        refine l_if _ f rfl rfl rfl (y_lss rfl rfl rfl) ?_ ?_
        · clear f A; intro c24 A f
          refine wpList_nil ?_
          refine x_tn ?_
          refine x_condT f rfl ?_
          refine wp_skip ?_
          refine x_tn ?_
          refine wp_seq ?_
          refine wp_block ?_
          refine wp_seq ?_
          refine wp_seq ?_
          refine sx_list ?_
          skip
          refine l_do f rfl rfl rfl (y_move rfl rfl) ?_; clear f A; intro A f
          refine l_do f rfl rfl rfl (y_move rfl rfl) ?_; clear f A; intro A f
          refine l_callif _ f rfl rfl rfl (IsCall.mk' (cap := []) rfl rfl rfl) (pl rfl) (inR_c _ ao n cap l (hR.below B0) hM (q : Nat)) ?_ ?_
          · clear f A; intro c25 W27 hb26 A f
            replace B0 := Below.next B0 hb26; replace hz0 := hz0.below hb26; replace hz1 := hz1.below hb26; replace rb1 := row_next rb1 hb26; replace rb8 := row_next rb8 hb26; replace rb20 := row_next rb20 hb26
            refine l_do f rfl rfl rfl (y_not rfl rfl) ?_; clear f A; intro A f
            refine wpList_nil ?_
            refine x_tn ?_
            refine x_condF f rfl ?_
            refine wp_skip ?_
            refine x_tn ?_
            refine wp_seq ?_
            refine sx_list ?_
            refine l_do f rfl rfl rfl (y_move rfl rfl) ?_; clear f A; intro A f
            refine l_do f rfl rfl rfl (y_move rfl rfl) ?_; clear f A; intro A f
            refine l_if _ f rfl rfl rfl (y_lss rfl rfl rfl) ?_ ?_
            · clear f A; intro c28 A f
              refine wpList_nil ?_
              refine x_tn ?_
              refine x_condT f rfl ?_
              refine sx_list ?_
              skip
              refine l_do f rfl rfl rfl (y_loadN (vs := [_, _, _, _]) rfl rfl (ag rfl) rfl (rowls (rowq rb8) _ _ ⟨rfl, rfl, rfl, rfl, trivial⟩)) ?_; clear f A; intro A f
              refine l_do f rfl rfl rfl (y_move rfl rfl) ?_; clear f A; intro A f
              have lz_b1 := row_lt rb1
              have lz_b8 := row_lt rb8
              have lz_b20 := row_lt rb20
              obtain ⟨hbi, hbo, hYn⟩ := znew_page hZ0 c25 (by omega) (by omega)
              obtain ⟨Y, hY⟩ : ∃ Y, backZ Z0 (q : Nat) 0 = Y := ⟨_, rfl⟩
              have HB := backOf_ok W27 foz0 fn0 fc0 to0 tn0 tc0 Z0 (q : Nat) 0 hz0 hZ0.may hbi hbo
              rw [hY] at HB hYn
              refine l_call f rfl rfl rfl (IsCall.mk' (cap := []) rfl rfl rfl) (pl rfl) HB ?_
              clear f A
              rintro _ W29 ⟨⟨foz2, fn2, fc2, to2, tn2, tc2, rfl, hz2, hf2, ht2⟩, hb30⟩
              refine ⟨_, rfl, ?_⟩
              intro A f
              replace B0 := Below.next B0 hb30; replace hz0 := hz0.below hb30; replace hz1 := hz1.below hb30; replace rb1 := row_next rb1 hb30; replace rb8 := row_next rb8 hb30; replace rb20 := row_next rb20 hb30
              have ho2 : OffZ (fun q => q ≠ b1 ∧ q ≠ b8 ∧ q ≠ b20) foz2 to2 Y := ⟨fun _ a ha => by have := hf2 a ha; omega, fun _ a ha => by have := ht2 a ha; omega⟩
              refine l_do f rfl rfl rfl (y_move rfl rfl) ?_; clear f A; intro A f
              refine l_do f rfl rfl rfl (y_ext rfl rfl rfl) ?_; clear f A; intro A f
              refine l_do f rfl rfl rfl (y_ext rfl rfl rfl) ?_; clear f A; intro A f
              refine l_store f rfl rfl rfl rfl rfl rb8 (sz rfl) rfl (Nat.le_of_ble_eq_true rfl) rfl ?_
              clear rb8; intro W31 hb32 rb8; dsimp only [setL, over, Value.cells] at rb8; replace B0 := Below.thenBut B0 hb32 (by omega); replace rb1 := But.row hb32 rb1 (by omega); replace rb20 := But.row hb32 rb20 (by omega); replace hz2 := zn_but hz2 hb32 (fun h a ha => (ho2.f h a ha).2.1) (fun h a ha => (ho2.t h a ha).2.1); replace hz1 := zn_but hz1 hb32 (fun h a ha => (ho1.f h a ha).2.1) (fun h a ha => (ho1.t h a ha).2.1)
              refine wpList_nil ?_
              refine x_bn ?_
              refine x_tn ?_
              refine sx_list ?_
              refine l_do f rfl rfl rfl (y_move rfl rfl) ?_; clear f A; intro A f
              refine l_do f rfl rfl rfl (y_add rfl rfl rfl rfl (by omega)) ?_; clear f A; intro A f
              refine l_do f rfl rfl rfl (y_assign rfl rfl) ?_; clear f A; intro A f
              refine wpList_nil ?_
              refine x_tn ?_
              exact ⟨N6 - (q + 1), by omega, q + 1, Y, foz2, fn2, fc2, to2, tn2, tc2, Z1, foz1, fn1, fc1, to1, tn1, tc1, rfl, by omega, f.sub ⟨rfl, rfl, rfl, rfl, rfl, rfl, rfl, rfl, trivial⟩, B0, hYn, znew_not hZ1 (fun h => by omega), hz2, hz1, ho2, ho1, rb1, rb8, rb20⟩
            · clear f A; intro c28 A f
              refine wpList_nil ?_
              refine x_tn ?_
              refine x_condF f rfl ?_
              refine sx_list ?_
              skip
              refine l_do f rfl rfl rfl (y_loadN (vs := [_, _, _, _]) rfl rfl (ag rfl) rfl (rowls (rowq rb20) _ _ ⟨rfl, rfl, rfl, rfl, trivial⟩)) ?_; clear f A; intro A f
              refine l_do f rfl rfl rfl (y_move rfl rfl) ?_; clear f A; intro A f
              have lz_b1 := row_lt rb1
              have lz_b8 := row_lt rb8
              have lz_b20 := row_lt rb20
              obtain ⟨hbi, hbo, hYn⟩ := znew_page hZ1 c25 (by omega) (by omega)
              obtain ⟨Y, hY⟩ : ∃ Y, backZ Z1 (q : Nat) 0 = Y := ⟨_, rfl⟩
              have HB := backOf_ok W27 foz1 fn1 fc1 to1 tn1 tc1 Z1 (q : Nat) 0 hz1 hZ1.may hbi hbo
              rw [hY] at HB hYn
              refine l_call f rfl rfl rfl (IsCall.mk' (cap := []) rfl rfl rfl) (pl rfl) HB ?_
              clear f A
              rintro _ W33 ⟨⟨foz2, fn2, fc2, to2, tn2, tc2, rfl, hz2, hf2, ht2⟩, hb34⟩
              refine ⟨_, rfl, ?_⟩
              intro A f
              replace B0 := Below.next B0 hb34; replace hz0 := hz0.below hb34; replace hz1 := hz1.below hb34; replace rb1 := row_next rb1 hb34; replace rb8 := row_next rb8 hb34; replace rb20 := row_next rb20 hb34
              have ho2 : OffZ (fun q => q ≠ b1 ∧ q ≠ b8 ∧ q ≠ b20) foz2 to2 Y := ⟨fun _ a ha => by have := hf2 a ha; omega, fun _ a ha => by have := ht2 a ha; omega⟩
              refine l_do f rfl rfl rfl (y_move rfl rfl) ?_; clear f A; intro A f
              refine l_do f rfl rfl rfl (y_ext rfl rfl rfl) ?_; clear f A; intro A f
              refine l_do f rfl rfl rfl (y_ext rfl rfl rfl) ?_; clear f A; intro A f
              refine l_store f rfl rfl rfl rfl rfl rb20 (sz rfl) rfl (Nat.le_of_ble_eq_true rfl) rfl ?_
              clear rb20; intro W35 hb36 rb20; dsimp only [setL, over, Value.cells] at rb20; replace B0 := Below.thenBut B0 hb36 (by omega); replace rb1 := But.row hb36 rb1 (by omega); replace rb8 := But.row hb36 rb8 (by omega); replace hz0 := zn_but hz0 hb36 (fun h a ha => (ho0.f h a ha).2.2) (fun h a ha => (ho0.t h a ha).2.2); replace hz2 := zn_but hz2 hb36 (fun h a ha => (ho2.f h a ha).2.2) (fun h a ha => (ho2.t h a ha).2.2)
              refine wpList_nil ?_
              refine x_bn ?_
              refine x_tn ?_
              refine sx_list ?_
              refine l_do f rfl rfl rfl (y_move rfl rfl) ?_; clear f A; intro A f
              refine l_do f rfl rfl rfl (y_add rfl rfl rfl rfl (by omega)) ?_; clear f A; intro A f
              refine l_do f rfl rfl rfl (y_assign rfl rfl) ?_; clear f A; intro A f
              refine wpList_nil ?_
              refine x_tn ?_
              exact ⟨N6 - (q + 1), by omega, q + 1, Z0, foz0, fn0, fc0, to0, tn0, tc0, Y, foz2, fn2, fc2, to2, tn2, tc2, rfl, by omega, f.sub ⟨rfl, rfl, rfl, rfl, rfl, rfl, rfl, rfl, trivial⟩, B0, znew_not hZ0 (fun h => by omega), hYn, hz0, hz2, ho0, ho2, rb1, rb8, rb20⟩
          · clear f A; intro c25 W27 hb26 A f
            replace B0 := Below.next B0 hb26; replace hz0 := hz0.below hb26; replace hz1 := hz1.below hb26; replace rb1 := row_next rb1 hb26; replace rb8 := row_next rb8 hb26; replace rb20 := row_next rb20 hb26
            refine l_do f rfl rfl rfl (y_not rfl rfl) ?_; clear f A; intro A f
            refine wpList_nil ?_
            refine x_tn ?_
            refine x_condT f rfl ?_
            refine wp_exit ?_
            refine x_te ?_
            refine x_bh ?_
            refine x_tn ?_
            refine sx_list ?_
            refine l_do f rfl rfl rfl (y_move rfl rfl) ?_; clear f A; intro A f
            refine l_do f rfl rfl rfl (y_add rfl rfl rfl rfl (by omega)) ?_; clear f A; intro A f
            refine l_do f rfl rfl rfl (y_assign rfl rfl) ?_; clear f A; intro A f
            refine wpList_nil ?_
            refine x_tn ?_
            exact ⟨N6 - (q + 1), by omega, q + 1, Z0, foz0, fn0, fc0, to0, tn0, tc0, Z1, foz1, fn1, fc1, to1, tn1, tc1, rfl, by omega, f.sub ⟨rfl, rfl, rfl, rfl, rfl, rfl, rfl, rfl, trivial⟩, B0, znew_not hZ0 (fun h => c25 h.1), znew_not hZ1 (fun h => c25 h.1), hz0, hz1, ho0, ho1, rb1, rb8, rb20⟩
        · clear f A; intro c24 A f
          refine wpList_nil ?_
          refine x_tn ?_
          refine x_condF f rfl ?_
          refine wp_exit ?_
          refine x_te ?_
          refine x_te ?_
          refine x_bh ?_
          refine x_tn ?_
          refine wp_seq ?_
          refine sx_list ?_
          have eq6 : (q : Int) = 256 := by omega
          rw [eq6] at hZ0 hZ1
          replace hZ0 := hZ0.congr (inQ_all (by unfold newOk at hn0; omega))
          replace hZ1 := hZ1.congr (inQ_all (by omega))
          refine l_do f rfl rfl rfl (y_loadN (vs := [_, _, _, _]) rfl rfl (ag rfl) rfl (rowls (rowq rb8) _ _ ⟨rfl, rfl, rfl, rfl, trivial⟩)) ?_; clear f A; intro A f
          refine l_do f rfl rfl rfl (y_loadN (vs := [_, _, _, _]) rfl rfl (ag rfl) rfl (rowls (rowq rb20) _ _ ⟨rfl, rfl, rfl, rfl, trivial⟩)) ?_; clear f A; intro A f
          obtain ⟨gz, hgz⟩ : ∃ g, g = W23.heap.size := ⟨_, rfl⟩
          have lg_b1 := row_lt rb1
          have lg_b8 := row_lt rb8
          have lg_b20 := row_lt rb20
          have lg_w := B0.size
          refine l_opR (R := fun v W => v = .slice (some ⟨gz, 0, none⟩) 2 2 ∧ Below W23.heap.size W23 W ∧ W.heap[gz]? = some (.cells #[.int .i64 Z0.f, .int .i64 Z0.t, .slice foz0 fn0 fc0, .slice to0 tn0 tc0, .int .i64 Z1.f, .int .i64 Z1.t, .slice foz1 fn1 fc1, .slice to1 tn1 tc1] 44 (0, 0))) f rfl rfl rfl ⟨_, _, bs_exec f rfl rfl (bs_zone2 _ _ _ _ _ _ _ _ _), by rw [hgz], (Below.refl _ _).alloc (Nat.le_refl _) _, by rw [hgz]; show (Array.push _ _)[_]? = _; rw [Array.getElem?_push, if_pos rfl]⟩ ?_
          clear f A
          rintro _ W37 ⟨rfl, hb38, rgz⟩ A f
          replace B0 := Below.next B0 hb38; replace hz0 := hz0.below hb38; replace hz1 := hz1.below hb38; replace rb1 := row_next rb1 hb38; replace rb8 := row_next rb8 hb38; replace rb20 := row_next rb20 hb38
          refine l_do f rfl rfl rfl (y_move rfl rfl) ?_; clear f A; intro A f
          refine l_do f rfl rfl rfl (y_move rfl rfl) ?_; clear f A; intro A f
          obtain ⟨gm, hgm⟩ : ∃ g, g = W37.heap.size := ⟨_, rfl⟩
          have lm_b1 := row_lt rb1
          have lm_b8 := row_lt rb8
          have lm_b20 := row_lt rb20
          have lm_gz := row_lt rgz
          refine l_opR (R := fun v W => v = .slice (some ⟨gm, 0, none⟩) 2 2 ∧ Below W37.heap.size W37 W ∧ W.heap[gm]? = some (.cells #[.int .i64 least, .int .i64 least] 3 (0, 0))) f rfl rfl rfl ⟨_, _, bs_exec f rfl rfl (bs_int2 _ _ _), by rw [hgm], (Below.refl _ _).alloc (Nat.le_refl _) _, by rw [hgm]; show (Array.push _ _)[_]? = _; rw [Array.getElem?_push, if_pos rfl]⟩ ?_
          clear f A
          rintro _ W39 ⟨rfl, hb40, rgm⟩ A f
          replace B0 := Below.next B0 hb40; replace hz0 := hz0.below hb40; replace hz1 := hz1.below hb40; replace rb1 := row_next rb1 hb40; replace rb8 := row_next rb8 hb40; replace rb20 := row_next rb20 hb40; replace rgz := row_next rgz hb40
          refine l_do f rfl rfl rfl (y_move rfl rfl) ?_; clear f A; intro A f
          refine l_do f rfl rfl rfl (y_build #[.slice (some ⟨gz, 0, none⟩) 2 2, .slice (some ⟨gm, 0, none⟩) 2 2, .int .i64 cpus, .slice none 0 0, .slice none 0 0] rfl rfl (by kernel_rfl)) ?_; clear f A; intro A f
          refine l_store f rfl rfl rfl rfl rfl rb1 (sz rfl) rfl (Nat.le_of_ble_eq_true rfl) rfl ?_
          clear rb1; intro W41 hb42 rb1; dsimp only [setL, over, Value.cells] at rb1; replace B0 := Below.thenBut B0 hb42 (by omega); replace rb8 := But.row hb42 rb8 (by omega); replace rb20 := But.row hb42 rb20 (by omega); replace rgz := But.row hb42 rgz (by omega); replace rgm := But.row hb42 rgm (by omega); replace hz0 := zn_but hz0 hb42 (fun h a ha => (ho0.f h a ha).1) (fun h a ha => (ho0.t h a ha).1); replace hz1 := zn_but hz1 hb42 (fun h a ha => (ho1.f h a ha).1) (fun h a ha => (ho1.t h a ha).1)
          refine l_do f rfl rfl rfl (y_assign rfl rfl) ?_; clear f A; intro A f
          refine wpList_nil ?_
          refine x_tn ?_
          refine wp_ret ?_
          refine x_retc1 f rfl rfl rfl (ag rfl) rb1 rfl ?_
          -- return 0: ¬c11@25 c12@28 c15@33 ¬c24@43
          exact ⟨.inr ⟨⟨c12, c15⟩, newX ⟨Z0, foz0, fn0, fc0, to0, tn0, tc0⟩ ⟨Z1, foz1, fn1, fc1, to1, tn1, tc1⟩ gz gm least cpus, rfl, ⟨Z0, Z1, hZ0, hZ1, rfl⟩, newX_at rgz rgm hz0 hz1⟩, B0⟩
      · clear f A; intro c15 W17 hb16 A f
        replace B0 := Below.next B0 hb16; replace hz0 := hz0.below hb16; replace rb1 := row_next rb1 hb16; replace rb8 := row_next rb8 hb16
        refine l_do f rfl rfl rfl (y_not rfl rfl) ?_; clear f A; intro A f
        refine l_do f rfl rfl rfl (y_pick rfl rfl rfl) ?_; clear f A; intro A f
        refine wpList_nil ?_
        refine x_tn ?_
        refine x_condT f rfl ?_
        refine wp_seq ?_
        refine sx_list ?_
        refine l_do f rfl rfl rfl (y_build #[.slice none 0 0, .slice none 0 0, .int .i64 0, .slice none 0 0, .slice none 0 0] rfl rfl (by kernel_rfl)) ?_; clear f A; intro A f
        refine l_store f rfl rfl rfl rfl rfl rb1 (sz rfl) rfl (Nat.le_of_ble_eq_true rfl) rfl ?_
        clear rb1; intro W43 hb44 rb1; dsimp only [setL, over, Value.cells] at rb1; replace B0 := Below.thenBut B0 hb44 (by omega); replace rb8 := But.row hb44 rb8 (by omega)
        refine l_do f rfl rfl rfl (y_assign rfl rfl) ?_; clear f A; intro A f
        refine wpList_nil ?_
        refine x_tn ?_
        refine wp_ret ?_
        refine x_tr ?_
        refine x_retc1 f rfl rfl rfl (ag rfl) rb1 rfl ?_
        -- return 1: ¬c11@25 c12@28 ¬c15@33
        exact ⟨.inl ⟨fun h => c15 h.2, rfl⟩, B0⟩
    · clear f A; intro c12 W14 hb13 A f
      replace B0 := Below.next B0 hb13; replace hz0 := hz0.below hb13; replace rb1 := row_next rb1 hb13; replace rb8 := row_next rb8 hb13
      refine l_do f rfl rfl rfl (y_not rfl rfl) ?_; clear f A; intro A f
      refine l_do f rfl rfl rfl (y_pick rfl rfl rfl) ?_; clear f A; intro A f
      refine l_do f rfl rfl rfl (y_move rfl rfl) ?_; clear f A; intro A f
      refine l_no f rfl rfl rfl ?_; clear f A; intro A f
      refine l_no f rfl rfl rfl ?_; clear f A; intro A f
      refine l_no f rfl rfl rfl ?_; clear f A; intro A f
      refine l_do f rfl rfl rfl (y_pick rfl rfl rfl) ?_; clear f A; intro A f
      refine wpList_nil ?_
      refine x_tn ?_
      refine x_condT f rfl ?_
      refine wp_seq ?_
      refine sx_list ?_
      refine l_do f rfl rfl rfl (y_build #[.slice none 0 0, .slice none 0 0, .int .i64 0, .slice none 0 0, .slice none 0 0] rfl rfl (by kernel_rfl)) ?_; clear f A; intro A f
      refine l_store f rfl rfl rfl rfl rfl rb1 (sz rfl) rfl (Nat.le_of_ble_eq_true rfl) rfl ?_
      clear rb1; intro W45 hb46 rb1; dsimp only [setL, over, Value.cells] at rb1; replace B0 := Below.thenBut B0 hb46 (by omega); replace rb8 := But.row hb46 rb8 (by omega)
      refine l_do f rfl rfl rfl (y_assign rfl rfl) ?_; clear f A; intro A f
      refine wpList_nil ?_
      refine x_tn ?_
      refine wp_ret ?_
      refine x_tr ?_
      refine x_retc1 f rfl rfl rfl (ag rfl) rb1 rfl ?_
      -- return 2: ¬c11@25 ¬c12@28
      exact ⟨.inl ⟨fun h => c12 h.1, rfl⟩, B0⟩

set_option maxRecDepth 10000 in
set_option maxHeartbeats 4000000 in
theorem heapNew_no1 (w : World) (split least cpus : Int) (ao : Option Addr) (n cap : Nat) (l : List (Int × Int)) (hR : Regs w ao n l) (hM : MayP l) (hn0 : ¬ newOk 0 split) :
    Calls Try.prog 9 #[.slice ao n cap, .int .i64 split, .int .i64 least, .int .i64 cpus] w fun e w' => e = .returned (.tuple #[.agg #[.slice none 0 0, .slice none 0 0, .int .i64 0, .slice none 0 0, .slice none 0 0], .int .i64 1]) ∧ Below w.heap.size w w' := by
  have HMa : ∀ W, Regs W ao n l → Calls Try.prog 23 #[.slice ao n cap] W fun e w' => e = .returned (.bool true) ∧ Below W.heap.size W w' := fun W h => (may_any W ao n cap l h).mono fun e w' h1 => by
    obtain ⟨⟨r, rfl, h2⟩, hb⟩ := h1
    rw [h2.2 hM]
    exact ⟨rfl, hb⟩
  have B0 := Below.refl w.heap.size w
  refine sx_enter (args := [_, _, _, _]) 73 Try.func9 rfl rfl rfl ?_
  intro A f
  refine wp_seq ?_
  refine sx_list ?_
  refine l_alloc (z := .agg #[.slice none 0 0, .slice none 0 0, .int .i64 0, .slice none 0 0, .slice none 0 0]) f rfl rfl rfl rfl (by kernel_rfl) ?_; clear f A; intro b1 W2 eb1 hb3 rb1 A f; dsimp only [Value.cells] at rb1
  have z_B0_b1 := B0.size; rw [eb1] at z_B0_b1
  replace B0 := Below.next B0 hb3
  refine l_do f rfl rfl rfl (y_assign rfl rfl) ?_; clear f A; intro A f
  refine wpList_nil ?_
  refine x_tn ?_
  refine wp_seq ?_
  refine wp_seq ?_
  refine sx_list ?_
  refine l_do f rfl rfl rfl (y_move rfl rfl) ?_; clear f A; intro A f
  refine l_call f rfl rfl rfl (IsCall.mk' (cap := []) rfl rfl rfl) (pl rfl) (HMa _ (hR.below B0)) ?_; clear f A; rintro _ W4 ⟨rfl, hb5⟩; refine ⟨_, rfl, ?_⟩; intro A f; replace B0 := Below.next B0 hb5; replace rb1 := row_next rb1 hb5
  refine l_do f rfl rfl rfl (y_not rfl rfl) ?_; clear f A; intro A f
  refine wpList_nil ?_
  refine x_tn ?_
  refine x_condF f rfl ?_
  refine wp_skip ?_
  refine x_tn ?_
  refine wp_seq ?_
  refine sx_list ?_
  refine l_do f rfl rfl rfl (y_move rfl rfl) ?_; clear f A; intro A f
  have lz_b1 := row_lt rb1
  have lzB := B0.size
  refine l_call f rfl rfl rfl (IsCall.mk' (cap := []) rfl rfl rfl) (pl rfl) (zoneNew_no _ 0 split hn0) ?_
  clear f A
  rintro _ W6 ⟨rfl, hb7⟩
  refine ⟨_, rfl, ?_⟩
  intro A f
  replace B0 := Below.next B0 hb7; replace rb1 := row_next rb1 hb7
  refine l_do f rfl rfl rfl (y_move rfl rfl) ?_; clear f A; intro A f
  refine l_do f rfl rfl rfl (y_ext rfl rfl rfl) ?_; clear f A; intro A f
  refine l_do f rfl rfl rfl (y_ext rfl rfl rfl) ?_; clear f A; intro A f
  refine l_as (z := .agg #[.int .i64 0, .int .i64 0, .slice none 0 0, .slice none 0 0]) f rfl rfl rfl rfl (by kernel_rfl) rfl rfl (fun _ => rfl) (fun _ => rfl) rfl (by intro u hu; simp [Value.cells] at hu; rcases hu with rfl | rfl | rfl | rfl <;> rfl) ?_; clear f A; intro b8 W9 eb8 hb10 rb8 A f
  dsimp only [Value.cells] at rb8
  have hpb8 := hb10
  have o_b1_b8 : b1 < b8 := by have := row_lt rb1; omega
  have z_B0_b8 := B0.size; rw [eb8] at z_B0_b8
  replace B0 := Below.next B0 hb10; replace rb1 := row_next rb1 hb10
  refine l_do f rfl rfl rfl (y_assign rfl rfl) ?_; clear f A; intro A f
  refine wpList_nil ?_
  refine x_tn ?_
  refine wp_seq ?_
  refine wp_seq ?_
  refine sx_list ?_
  refine l_do f rfl rfl rfl (y_move rfl rfl) ?_; clear f A; intro A f
  refine l_if _ f rfl rfl rfl (y_neq rfl rfl rfl) ?_ ?_
  · clear f A; intro c11 A f
    refine l_do f rfl rfl rfl (y_move rfl rfl) ?_; clear f A; intro A f
    refine l_no f rfl rfl rfl ?_; clear f A; intro A f
    refine l_no f rfl rfl rfl ?_; clear f A; intro A f
    refine l_no f rfl rfl rfl ?_; clear f A; intro A f
    refine l_do f rfl rfl rfl (y_pick rfl rfl rfl) ?_; clear f A; intro A f
    refine l_do f rfl rfl rfl (y_move rfl rfl) ?_; clear f A; intro A f
    refine l_no f rfl rfl rfl ?_; clear f A; intro A f
    refine l_no f rfl rfl rfl ?_; clear f A; intro A f
    refine l_no f rfl rfl rfl ?_; clear f A; intro A f
    refine l_do f rfl rfl rfl (y_pick rfl rfl rfl) ?_; clear f A; intro A f
    refine wpList_nil ?_
    refine x_tn ?_
    refine x_condT f rfl ?_
    refine wp_seq ?_
    refine sx_list ?_
    refine l_do f rfl rfl rfl (y_build #[.slice none 0 0, .slice none 0 0, .int .i64 0, .slice none 0 0, .slice none 0 0] rfl rfl (by kernel_rfl)) ?_; clear f A; intro A f
    refine l_store f rfl rfl rfl rfl rfl rb1 (sz rfl) rfl (Nat.le_of_ble_eq_true rfl) rfl ?_
    clear rb1; intro W12 hb13 rb1; dsimp only [setL, over, Value.cells] at rb1; replace B0 := Below.thenBut B0 hb13 (by omega); replace rb8 := But.row hb13 rb8 (by omega)
    refine l_do f rfl rfl rfl (y_assign rfl rfl) ?_; clear f A; intro A f
    refine wpList_nil ?_
    refine x_tn ?_
    refine wp_ret ?_
    refine x_tr ?_
    refine x_retc1 f rfl rfl rfl (ag rfl) rb1 rfl ?_
    -- return 0: c11@25
    exact ⟨rfl, B0⟩
  · intro c11; exfalso; omega

set_option maxRecDepth 10000 in
set_option maxHeartbeats 4000000 in
theorem heapNew_no8 (w : World) (split least cpus : Int) (ao : Option Addr) (n cap : Nat) (l : List (Int × Int)) (hR : Regs w ao n l) (hM : ¬ MayP l) :
    Calls Try.prog 9 #[.slice ao n cap, .int .i64 split, .int .i64 least, .int .i64 cpus] w fun e w' => e = .returned (.tuple #[.agg #[.slice none 0 0, .slice none 0 0, .int .i64 0, .slice none 0 0, .slice none 0 0], .int .i64 8]) ∧ Below w.heap.size w w' := by
  have HMa : ∀ W, Regs W ao n l → Calls Try.prog 23 #[.slice ao n cap] W fun e w' => e = .returned (.bool false) ∧ Below W.heap.size W w' := fun W h => (may_any W ao n cap l h).mono fun e w' h1 => by
    obtain ⟨⟨r, rfl, h2⟩, hb⟩ := h1
    have e : r = false := by cases r with
      | false => rfl
      | true => exact absurd (h2.1 rfl) hM
    rw [e]
    exact ⟨rfl, hb⟩
  have B0 := Below.refl w.heap.size w
  refine sx_enter (args := [_, _, _, _]) 73 Try.func9 rfl rfl rfl ?_
  intro A f
  refine wp_seq ?_
  refine sx_list ?_
  refine l_alloc (z := .agg #[.slice none 0 0, .slice none 0 0, .int .i64 0, .slice none 0 0, .slice none 0 0]) f rfl rfl rfl rfl (by kernel_rfl) ?_; clear f A; intro b1 W2 eb1 hb3 rb1 A f; dsimp only [Value.cells] at rb1
  have z_B0_b1 := B0.size; rw [eb1] at z_B0_b1
  replace B0 := Below.next B0 hb3
  refine l_do f rfl rfl rfl (y_assign rfl rfl) ?_; clear f A; intro A f
  refine wpList_nil ?_
  refine x_tn ?_
  refine wp_seq ?_
  refine wp_seq ?_
  refine sx_list ?_
  refine l_do f rfl rfl rfl (y_move rfl rfl) ?_; clear f A; intro A f
  refine l_call f rfl rfl rfl (IsCall.mk' (cap := []) rfl rfl rfl) (pl rfl) (HMa _ (hR.below B0)) ?_; clear f A; rintro _ W4 ⟨rfl, hb5⟩; refine ⟨_, rfl, ?_⟩; intro A f; replace B0 := Below.next B0 hb5; replace rb1 := row_next rb1 hb5
  refine l_do f rfl rfl rfl (y_not rfl rfl) ?_; clear f A; intro A f
  refine wpList_nil ?_
  refine x_tn ?_
  refine x_condT f rfl ?_
  refine wp_seq ?_
  refine sx_list ?_
  refine l_do f rfl rfl rfl (y_build #[.slice none 0 0, .slice none 0 0, .int .i64 0, .slice none 0 0, .slice none 0 0] rfl rfl (by kernel_rfl)) ?_; clear f A; intro A f
  refine l_store f rfl rfl rfl rfl rfl rb1 (sz rfl) rfl (Nat.le_of_ble_eq_true rfl) rfl ?_
  clear rb1; intro W6 hb7 rb1; dsimp only [setL, over, Value.cells] at rb1; replace B0 := Below.thenBut B0 hb7 (by omega)
  refine l_do f rfl rfl rfl (y_assign rfl rfl) ?_; clear f A; intro A f
  refine wpList_nil ?_
  refine x_tn ?_
  refine wp_ret ?_
  refine x_tr ?_
  refine x_retc1 f rfl rfl rfl (ag rfl) rb1 rfl ?_
  -- return 0: 
  exact ⟨rfl, B0⟩


end Go.Proofs.Ytbjlbmofdnkmiaa

/-
  OWN TEXT. Contract of the laws' own sameInts at two that hold the same.
-/
namespace Go.Proofs.Ytbjlbmofdnkmiaa
open Go Go.RowKit Go.Proofs.Ytbjlbmofdnkmiaa.Kit

set_option maxHeartbeats 400000 in
theorem same_eq (w : World) (ao bo : Option Addr) (n ca cb : Nat) (xs : List Int) (hn : xs.length = n) (hr : n * 8 ≤ 140737488351232) (ha : IntsAt w ao xs) (hb : IntsAt w bo xs) :
    Calls Try.prog 28 #[.slice ao n ca, .slice bo n cb] w fun e w' => e = .returned (.bool true) ∧ ∃ d, w' = w.drewN d := by
  go_enter Try.func28, Try.ntmps28
  go_wp2
  go_loopw [5] (fun i wr => ∃ k d : Nat, k ≤ n ∧ i = .int .i64 k ∧ wr = w.drewN d) (fun i _ => n - (intOf i).toNat)
  case atStart => exact ⟨0, 0, Nat.zero_le _, rfl, rfl⟩
  case round =>
    obtain ⟨k, d, hk, rfl, rfl⟩ := hrel
    by_cases hlt : k < n
    · obtain ⟨b1, o1, rfl, c1⟩ := ha k (by omega)
      obtain ⟨b2, o2, rfl, c2⟩ := hb k (by omega)
      clear ha hb
      go_wp2
      go_quiet (fail)
      go_wp2
      go_roundw
      case rel => exact ⟨k + 1, _, by omega, by go_num, rfl⟩
      case measure => simp [intOf]; omega
    · go_wp2
      go_ret
      exact ⟨rfl, d, rfl⟩

end Go.Proofs.Ytbjlbmofdnkmiaa

/-
  OWN TEXT. Contracts of the laws' own: sameBlocks, sameZone at two that hold the same.
-/
namespace Go.Proofs.Ytbjlbmofdnkmiaa
open Go Go.RowKit Go.Proofs.Ytbjlbmofdnkmiaa.Kit

set_option maxHeartbeats 1000000 in
theorem sameBlocks_eq (w : World) (ao bo : Option Addr) (n ca cb : Nat) (l : List Bk) (ha : Blks w ao n l) (hb : Blks w bo n l) :
    Calls Try.prog 29 #[.slice ao n ca, .slice bo n cb] w fun e w' => e = .returned (.bool true) ∧ ∃ d, w' = w.drewN d := by
  have hn := ha.len
  have hr := ha.reach
  have xa := ha.at_
  have xb := hb.at_
  clear ha hb
  go_enter Try.func29, Try.ntmps29
  go_wp2
  go_loopw [5] (fun i wr => ∃ k d : Nat, k ≤ n ∧ i = .int .i64 k ∧ wr = w.drewN d) (fun i _ => n - (intOf i).toNat)
  case atStart => exact ⟨0, 0, Nat.zero_le _, rfl, rfl⟩
  case round =>
    obtain ⟨k, d, hk, rfl, rfl⟩ := hrel
    by_cases hlt : k < n
    · obtain ⟨b1, o1, x, y, u, rfl, c1, c2, c3, hX⟩ := xa.at k (by omega)
      obtain ⟨b2, o2, x', y', u', rfl, d1, d2, d3, hX'⟩ := xb.at k (by omega)
      have hxy : (⟨x, y, u⟩ : Bk) = ⟨x', y', u'⟩ := hX.out.symm.trans hX'.out
      cases hxy
      clear xa xb hX hX'
      go_wp2
      go_quiet (fail)
      go_wp2
      go_roundw
      case rel => exact ⟨k + 1, _, by omega, by go_num, rfl⟩
      case measure => simp [intOf]; omega
    · go_wp2
      go_ret
      exact ⟨rfl, d, rfl⟩

set_option maxHeartbeats 1000000 in
theorem sameZone_eq (w : World) (f t : Int) (f1 f2 t1 t2 : Option Addr) (fn fc1 fc2 tn tc1 tc2 : Nat) (z : Zn) (h1 : ZnAt w f1 fn t1 tn z) (h2 : ZnAt w f2 fn t2 tn z) :
    Calls Try.prog 30 #[.agg #[.int .i64 f, .int .i64 t, .slice f1 fn fc1, .slice t1 tn tc1], .agg #[.int .i64 f, .int .i64 t, .slice f2 fn fc2, .slice t2 tn tc2]] w fun e w' => e = .returned (.bool true) ∧ Below w.heap.size w w' := by
  have hb1 : Below w.heap.size w ((w.alloc (.cells #[.int .i64 f, .int .i64 t, .slice f1 fn fc1, .slice t1 tn tc1] 44)).alloc (.cells #[.int .i64 f, .int .i64 t, .slice f2 fn fc2, .slice t2 tn tc2] 44)) := ((Below.refl _ _).alloc (Nat.le_refl _) _).alloc (by simp) _
  have g1 := h1.below hb1
  have g2 := h2.below hb1
  clear h1 h2
  go_enter Try.func30, Try.ntmps30
  go_wp2_with fail
  go_at_call 29
  refine (sameBlocks_eq _ f1 f2 fn fc1 fc2 z.free g1.free g2.free).mono ?_
  rintro e w1 ⟨rfl, d, rfl⟩
  go_wp2_with fail
  go_at_call 28
  refine (same_eq _ t1 t2 tn tc1 tc2 z.types g1.types.len g1.types.reach (g1.types.at_.below (below_drawn d)) (g2.types.at_.below (below_drawn d))).mono ?_
  rintro e w2 ⟨rfl, d2, rfl⟩
  go_wp2
  go_ret
  exact ⟨rfl, hb1.trans (below_drewN (Below.refl _ _) _)⟩

end Go.Proofs.Ytbjlbmofdnkmiaa

/-
  OWN TEXT. Contracts of the laws' own: sameHeap at two that hold the same.
-/
namespace Go.Proofs.Ytbjlbmofdnkmiaa
open Go Go.RowKit Go.Proofs.Ytbjlbmofdnkmiaa.Kit

/-- A heap as a value. -/
def hval (x : Hx) : Value := .agg #[.slice x.zo x.zn x.zc, .slice x.mo x.mn x.mc, .int .i64 x.cpus, .slice x.lo x.ln x.lc, .slice x.vo x.vn x.vc]

theorem map_getDH {α β : Type} {l m : List α} {f : α → β} (h : l.map f = m.map f) (i : Nat) (d : α) : f (l.getD i d) = f (m.getD i d) := by
  have e := congrArg (fun s => s[i]?) h
  simp only [List.getElem?_map] at e
  rw [List.getD_eq_getElem?_getD, List.getD_eq_getElem?_getD]
  cases h1 : l[i]? with
  | none =>
    cases h2 : m[i]? with
    | none => rfl
    | some y => rw [h1, h2] at e; cases e
  | some x =>
    cases h2 : m[i]? with
    | none => rw [h1, h2] at e; cases e
    | some y => rw [h1, h2] at e; simpa using e

set_option maxRecDepth 4000 in
set_option maxHeartbeats 4000000 in
theorem sameHeap_eq (w : World) (x y : Hx) (hx : x.At w) (hy : y.At w) (he : x.hp = y.hp) :
    Calls Try.prog 10 #[.agg #[.slice x.zo x.zn x.zc, .slice x.mo x.mn x.mc, .int .i64 x.cpus, .slice x.lo x.ln x.lc, .slice x.vo x.vn x.vc], .agg #[.slice y.zo y.zn y.zc, .slice y.mo y.mn y.mc, .int .i64 y.cpus, .slice y.lo y.ln y.lc, .slice y.vo y.vn y.vc]] w fun e w' => e = .returned (.bool true) ∧ Below w.heap.size w w' := by
  have e0 : x.zs.map (·.z) = y.zs.map (·.z) := congrArg Hp.zones he
  have e1 : x.mins = y.mins := congrArg Hp.mins he
  have e2 : x.cpus = y.cpus := congrArg Hp.cpus he
  have e3 : x.ls.map (·.l) = y.ls.map (·.l) := congrArg Hp.lists he
  have e4 : x.live = y.live := congrArg Hp.live he
  obtain ⟨zs, zo, zn, zc, mins, mo, mn, mc, cpus, ls, lo, ln, lc, live, vo, vn, vc⟩ := x
  obtain ⟨zs', zo', zn', zc', mins', mo', mn', mc', cpus', ls', lo', ln', lc', live', vo', vn', vc'⟩ := y
  dsimp only at e0 e1 e2 e3 e4 ⊢
  subst e1 e2 e4
  obtain ⟨xz, xm, xl, xv⟩ := hx
  obtain ⟨yz, ym, yl, yv⟩ := hy
  dsimp only at xz xm xl xv yz ym yl yv
  obtain rfl : zn = zn' := by have := congrArg List.length e0; simp only [List.length_map] at this; have := xz.len; have := yz.len; omega
  obtain rfl : ln = ln' := by have := congrArg List.length e3; simp only [List.length_map] at this; have := xl.len; have := yl.len; omega
  obtain rfl : mn = mn' := by have := xm.len; have := ym.len; omega
  obtain rfl : vn = vn' := by have := xv.len; have := yv.len; omega
  clear he
  have hE0 : Hid (zs.map (·.z) = zs'.map (·.z)) := e0
  have hE3 : Hid (ls.map (·.l) = ls'.map (·.l)) := e3
  clear e0 e3
  have hb1 := below_box w (.cells #[.slice zo zn zc, .slice mo mn mc, .int .i64 cpus, .slice lo ln lc, .slice vo vn vc] 28)
  have A1 := hbox_new w (.slice zo zn zc) (.slice mo mn mc) (.int .i64 cpus) (.slice lo ln lc) (.slice vo vn vc) 28
  have hb2 := below_box (w.alloc (.cells #[.slice zo zn zc, .slice mo mn mc, .int .i64 cpus, .slice lo ln lc, .slice vo vn vc] 28)) (.cells #[.slice zo' zn zc', .slice mo' mn mc', .int .i64 cpus, .slice lo' ln lc', .slice vo' vn vc'] 28)
  have A2 := hbox_new (w.alloc (.cells #[.slice zo zn zc, .slice mo mn mc, .int .i64 cpus, .slice lo ln lc, .slice vo vn vc] 28)) (.slice zo' zn zc') (.slice mo' mn mc') (.int .i64 cpus) (.slice lo' ln lc') (.slice vo' vn vc') 28
  replace A1 := A1.below hb2
  have hb0 := hb1.trans (hb2.mono hb1.size)
  have hs0 : (w.alloc (.cells #[.slice zo zn zc, .slice mo mn mc, .int .i64 cpus, .slice lo ln lc, .slice vo vn vc] 28)).heap.size = w.heap.size + 1 := by simp
  rw [hs0] at A2
  clear hb1 hb2 hs0
  obtain ⟨W0, hW0⟩ : ∃ W0, (w.alloc (.cells #[.slice zo zn zc, .slice mo mn mc, .int .i64 cpus, .slice lo ln lc, .slice vo vn vc] 28)).alloc (.cells #[.slice zo' zn zc', .slice mo' mn mc', .int .i64 cpus, .slice lo' ln lc', .slice vo' vn vc'] 28) = W0 := ⟨_, rfl⟩
  rw [hW0] at A1 A2 hb0
  have HW0 : Hid _ := hW0
  replace xz := xz.below hb0
  replace xm := xm.below hb0
  replace xl := xl.below hb0
  replace xv := xv.below hb0
  replace yz := yz.below hb0
  replace ym := ym.below hb0
  replace yl := yl.below hb0
  replace yv := yv.below hb0
  have a0 := A1.c0
  have a1 := A1.c1
  have a2 := A1.c2
  have a3 := A1.c3
  have a4 := A1.c4
  have b0 := A2.c0
  have b1 := A2.c1
  have b2 := A2.c2
  have b3 := A2.c3
  have b4 := A2.c4
  have q : (cpus == cpus) = true := by simp
  have qz : ((zn : Int) == (zn : Int)) = true := by simp
  have ql : ((ln : Int) == (ln : Int)) = true := by simp
  have rz := xz.reach
  have rl := xl.reach
  clear hW0
  go_enter Try.func10, Try.ntmps10
  go_wp2_with (rw [HW0.out])
  go_at_call 28
  refine (same_eq _ mo mo' mn mc mc' mins xm.len xm.reach xm.at_ ym.at_).mono ?_
  rintro e w2 ⟨rfl, d2, rfl⟩
  obtain ⟨W2, hW2⟩ : ∃ W2, W0.drewN d2 = W2 := ⟨_, rfl⟩
  have hB2 : Below W0.heap.size W0 W2 := by rw [← hW2]; exact below_drawn d2
  rw [hW2]
  clear hW2 a0 a1 a2 a3 a4 b0 b1 b2 b3 b4
  have a4 := (A1.below hB2).c4
  have b4 := (A2.below hB2).c4
  go_wp2_with fail
  go_at_call 29
  refine (sameBlocks_eq _ vo vo' vn vc vc' live (xv.below hB2) (yv.below hB2)).mono ?_
  rintro e w3 ⟨rfl, d3, rfl⟩
  obtain ⟨W3, hW3⟩ : ∃ W3, W2.drewN d3 = W3 := ⟨_, rfl⟩
  have hB3 : Below W0.heap.size W0 W3 := by rw [← hW3]; exact hB2.trans ((below_drawn d3).mono hB2.size)
  rw [hW3]
  clear hW3 a4 b4 HW0
  go_wp2_with fail
  go_loopw [5] (fun iv wr => ∃ k : Nat, k ≤ zn ∧ iv = .int .i64 k ∧ Below W0.heap.size W0 wr) (fun iv _ => zn - (intOf iv).toNat)
  case atStart => exact ⟨0, Nat.zero_le _, rfl, hB3⟩
  case round =>
    obtain ⟨k, hk, rfl, hB⟩ := hrel
    clear hB2 hB3
    have B1 := A1.below hB
    have B2 := A2.below hB
    have a0 := B1.c0
    have b0 := B2.c0
    by_cases hlt : k < zn
    · obtain ⟨g, off, z, fo, fn, fc, to_, tn, tc, ha, c0, c1, c2, c3, hat, hz⟩ := (xz.below hB).at k hlt
      obtain ⟨g', off', z', fo', fn', fc', to', tn', tc', ha', d0, d1, d2, d3, hat', hz'⟩ := (yz.below hB).at k hlt
      subst ha ha'
      have hzz : z = z' := by
        have := map_getDH hE0.out k .zero
        rw [hz.out, hz'.out] at this
        exact this
      subst hzz
      obtain rfl : fn = fn' := hat.free.len.symm.trans hat'.free.len
      obtain rfl : tn = tn' := hat.types.len.symm.trans hat'.types.len
      go_wp2_with fail
      have SB : Below wr.heap.size wr { wr with drawn := wr.drawn + 1 } := (Below.refl wr.heap.size wr).drew
      have m0 : ∀ wx, Below wr.heap.size wr wx → wx.cell? ⟨w.heap.size, 0, none⟩ = some (.slice (some ⟨g, off, none⟩) zn zc) := fun wx h => keep a0 h
      have m1 : ∀ wx, Below wr.heap.size wr wx → wx.cell? ⟨w.heap.size + 1, 0, none⟩ = some (.slice (some ⟨g', off', none⟩) zn zc') := fun wx h => keep b0 h
      have n0 : ∀ wx, Below wr.heap.size wr wx → wx.cell? ⟨g, off + k * 4, none⟩ = some (.int .i64 z.f) := fun wx h => keep c0 h
      have n1 : ∀ wx, Below wr.heap.size wr wx → wx.cell? ⟨g, off + k * 4 + 1, none⟩ = some (.int .i64 z.t) := fun wx h => keep c1 h
      have n2 : ∀ wx, Below wr.heap.size wr wx → wx.cell? ⟨g, off + k * 4 + 2, none⟩ = some (.slice fo fn fc) := fun wx h => keep c2 h
      have n3 : ∀ wx, Below wr.heap.size wr wx → wx.cell? ⟨g, off + k * 4 + 3, none⟩ = some (.slice to_ tn tc) := fun wx h => keep c3 h
      have o0 : ∀ wx, Below wr.heap.size wr wx → wx.cell? ⟨g', off' + k * 4, none⟩ = some (.int .i64 z.f) := fun wx h => keep d0 h
      have o1 : ∀ wx, Below wr.heap.size wr wx → wx.cell? ⟨g', off' + k * 4 + 1, none⟩ = some (.int .i64 z.t) := fun wx h => keep d1 h
      have o2 : ∀ wx, Below wr.heap.size wr wx → wx.cell? ⟨g', off' + k * 4 + 2, none⟩ = some (.slice fo' fn fc') := fun wx h => keep d2 h
      have o3 : ∀ wx, Below wr.heap.size wr wx → wx.cell? ⟨g', off' + k * 4 + 3, none⟩ = some (.slice to' tn tc') := fun wx h => keep d3 h
      refine wp_region_peel (S := fun wx => Below wr.heap.size wr wx) 11 _ (by kernel_rfl) (by kernel_rfl) rfl ?_
      simp only [List.take_succ_cons, List.take_zero]
      refine takeH 0 (v := .pointer (some ⟨w.heap.size, 0, none⟩)) rfl (by kernel_rfl) (by kernel_rfl) (by kernel_rfl) (fun _ _ _ h => h) rfl (fun wx hSx => ?_) SB ?_
      · go_simp
      try simp only [Act.put, List.setIfInBounds_toArray, List.set_cons_zero, List.set_cons_succ]
      refine takeH 1 (v := .slice (some ⟨g, off, none⟩) zn zc) rfl (by kernel_rfl) (by kernel_rfl) (by kernel_rfl) (fun _ _ _ h => h) rfl (fun wx hSx => ?_) SB ?_
      · go_simp
      try simp only [Act.put, List.setIfInBounds_toArray, List.set_cons_zero, List.set_cons_succ]
      refine takeH 2 (v := .int .i64 (k : Int)) rfl (by kernel_rfl) (by kernel_rfl) (by kernel_rfl) (fun _ _ _ h => h) rfl (fun wx hSx => ?_) SB ?_
      · go_simp
      try simp only [Act.put, List.setIfInBounds_toArray, List.set_cons_zero, List.set_cons_succ]
      refine takeH 3 (v := .pointer (some ⟨g, off + k * 4, none⟩)) rfl (by kernel_rfl) (by kernel_rfl) (by kernel_rfl) (fun _ _ _ h => h) rfl (fun wx hSx => ?_) SB ?_
      · go_simp
      try simp only [Act.put, List.setIfInBounds_toArray, List.set_cons_zero, List.set_cons_succ]
      refine takeH 4 (v := .agg #[.int .i64 z.f, .int .i64 z.t, .slice fo fn fc, .slice to_ tn tc]) rfl (by kernel_rfl) (by kernel_rfl) (by kernel_rfl) (fun _ _ _ h => h) rfl (fun wx hSx => ?_) SB ?_
      · go_simp
      try simp only [Act.put, List.setIfInBounds_toArray, List.set_cons_zero, List.set_cons_succ]
      refine takeH 5 (v := .pointer (some ⟨w.heap.size + 1, 0, none⟩)) rfl (by kernel_rfl) (by kernel_rfl) (by kernel_rfl) (fun _ _ _ h => h) rfl (fun wx hSx => ?_) SB ?_
      · go_simp
      try simp only [Act.put, List.setIfInBounds_toArray, List.set_cons_zero, List.set_cons_succ]
      refine takeH 6 (v := .slice (some ⟨g', off', none⟩) zn zc') rfl (by kernel_rfl) (by kernel_rfl) (by kernel_rfl) (fun _ _ _ h => h) rfl (fun wx hSx => ?_) SB ?_
      · go_simp
      try simp only [Act.put, List.setIfInBounds_toArray, List.set_cons_zero, List.set_cons_succ]
      refine takeH 7 (v := .int .i64 (k : Int)) rfl (by kernel_rfl) (by kernel_rfl) (by kernel_rfl) (fun _ _ _ h => h) rfl (fun wx hSx => ?_) SB ?_
      · go_simp
      try simp only [Act.put, List.setIfInBounds_toArray, List.set_cons_zero, List.set_cons_succ]
      refine takeH 8 (v := .pointer (some ⟨g', off' + k * 4, none⟩)) rfl (by kernel_rfl) (by kernel_rfl) (by kernel_rfl) (fun _ _ _ h => h) rfl (fun wx hSx => ?_) SB ?_
      · go_simp
      try simp only [Act.put, List.setIfInBounds_toArray, List.set_cons_zero, List.set_cons_succ]
      refine takeH 9 (v := .agg #[.int .i64 z.f, .int .i64 z.t, .slice fo' fn fc', .slice to' tn tc']) rfl (by kernel_rfl) (by kernel_rfl) (by kernel_rfl) (fun _ _ _ h => h) rfl (fun wx hSx => ?_) SB ?_
      · go_simp
      try simp only [Act.put, List.setIfInBounds_toArray, List.set_cons_zero, List.set_cons_succ]
      refine oneH 10 (by kernel_rfl) rfl rfl (fun K1 hK1 => ?_)
      go_simp
      refine (sameZone_eq _ z.f z.t fo fo' to_ to' fn fc fc' tn tc tc' z (hat.below SB) (hat'.below SB)).mono ?_
      rintro e wA ⟨rfl, hbA⟩
      have SA : Below wr.heap.size wr wA := SB.trans (hbA.mono SB.size)
      refine hK1 _ _ SA ?_
      try simp only [Act.put, List.setIfInBounds_toArray, List.set_cons_zero, List.set_cons_succ]
      refine wpAnyH_done (by kernel_rfl) ?_ _
      show Oper.wp _ _ _ _ _ _
      have hBA : Below W0.heap.size W0 wA := hB.trans (SA.mono hB.size)
      clear m0 m1 n0 n1 n2 n3 o0 o1 o2 o3 hat hat' c0 c1 c2 c3 d0 d1 d2 d3 hz hz' SA SB hbA a0 b0 B1 B2 hK1
      go_wp2_with fail
      go_roundw
      case rel => exact ⟨k + 1, by omega, by go_num, hBA⟩
      case measure => simp [intOf]; omega
    · go_wp2_with fail
      clear hlt hk
      go_loopw [6] (fun iv wr => ∃ k : Nat, k ≤ ln ∧ iv = .int .i64 k ∧ Below W0.heap.size W0 wr) (fun iv _ => ln - (intOf iv).toNat)
      case atStart => exact ⟨0, Nat.zero_le _, rfl, hB⟩
      case round =>
        clear a0 b0 B1 B2 hB
        obtain ⟨k, hk, rfl, hB⟩ := hrel
        have B1 := A1.below hB
        have B2 := A2.below hB
        have a3 := B1.c3
        have b3 := B2.c3
        by_cases hlt : k < ln
        · obtain ⟨g, off, c, z, t, pages, po, pn, pc, ha, c0, c1, c2, c3, hat, hz⟩ := (xl.below hB).at k hlt
          obtain ⟨g', off', c', z', t', pages', po', pn', pc', ha', d0, d1, d2, d3, hat', hz'⟩ := (yl.below hB).at k hlt
          subst ha ha'
          have hzz : (⟨c, z, t, pages⟩ : Ls) = ⟨c', z', t', pages'⟩ := by
            have := map_getDH hE3.out k .zero
            rw [hz.out, hz'.out] at this
            exact this
          cases hzz
          obtain rfl : pn = pn' := hat.len.symm.trans hat'.len
          have qc : (c == c) = true := by simp
          have qq : (z == z) = true := by simp
          have qt : (t == t) = true := by simp
          have hb1 := below_box wr (.cells #[.int .i64 c, .int .i64 z, .int .i64 t, .slice po pn pc] 57)
          have X1 := zbox_new wr (.int .i64 c) (.int .i64 z) (.int .i64 t) (.slice po pn pc) 57
          have hb2 := below_box (wr.alloc (.cells #[.int .i64 c, .int .i64 z, .int .i64 t, .slice po pn pc] 57)) (.cells #[.int .i64 c, .int .i64 z, .int .i64 t, .slice po' pn pc'] 57)
          have X2 := zbox_new (wr.alloc (.cells #[.int .i64 c, .int .i64 z, .int .i64 t, .slice po pn pc] 57)) (.int .i64 c) (.int .i64 z) (.int .i64 t) (.slice po' pn pc') 57
          have hbb := hb1.trans (hb2.mono hb1.size)
          replace X1 := X1.below hb2
          replace b3 := keep b3 hb1
          replace d0 := keep d0 hb1
          replace d1 := keep d1 hb1
          replace d2 := keep d2 hb1
          replace d3 := keep d3 hb1
          have x0 := X1.c0
          have x1 := X1.c1
          have x2 := X1.c2
          have x3 := X1.c3
          have u0 := X2.c0
          have u1 := X2.c1
          have u2 := X2.c2
          have u3 := X2.c3
          have HS := same_eq ((wr.alloc (.cells #[.int .i64 c, .int .i64 z, .int .i64 t, .slice po pn pc] 57)).alloc (.cells #[.int .i64 c, .int .i64 z, .int .i64 t, .slice po' pn pc'] 57)) po po' pn pc pc' pages hat.len hat.reach (hat.below hbb).at_ (hat'.below hbb).at_
          clear hat hat' hz hz' B1 B2 hb1 hb2
          go_wp2_with fail
          go_at_call 28
          refine HS.mono ?_
          rintro e w5 ⟨rfl, d5, rfl⟩
          have hB5 := hB.trans ((hbb.trans ((below_drawn d5).mono hbb.size)).mono hB.size)
          clear HS x0 x1 x2 x3 u0 u1 u2 u3 X1 X2 c0 c1 c2 c3 d0 d1 d2 d3 a3 b3 hbb
          go_wp2_with fail
          go_roundw
          case rel => exact ⟨k + 1, by omega, by go_num, hB5⟩
          case measure => simp [intOf]; omega
        · go_wp2
          go_ret
          exact ⟨rfl, hb0.trans (hB.mono hb0.size)⟩

end Go.Proofs.Ytbjlbmofdnkmiaa
