/-
  OWN TEXTS, bundled: HcNew, RefZp, RefZn, RefZa.
-/
import Derived.Test.YtbjlbmofdnkmiaaPagesNewPart2
import Derived.Test.YtbjlbmofdnkmiaaPagesNewPart11
import Derived.Test.YtbjlbmofdnkmiaaPagesNewPart13
import Derived.Test.YtbjlbmofdnkmiaaPagesNewPart7
import Derived.Test.YtbjlbmofdnkmiaaPagesNewPart4

/-
  OWN TEXT. Contracts of the code: pages.newZone, pages.New (written by sxnew.py).
-/
namespace Go.Proofs.Ytbjlbmofdnkmiaa
open Go Go.RowKit Go.Proofs.Ytbjlbmofdnkmiaa.Kit

theorem zGive_some (w : World) (foz : Option Addr) (fn fc : Nat) (to_ : Option Addr) (tn tc : Nat) (z : Zn) (a s : Int) (h : ZnAt w foz fn to_ tn z) (hM : ZMay z) (hr : giveOk z a s) {Y : Zn} (hG : giveK s.toNat z a = some Y) :
    Calls Try.prog 59 #[.agg #[.int .i64 z.f, .int .i64 z.t, .slice foz fn fc, .slice to_ tn tc], .int .i64 a, .int .i64 s] w fun e w' => RetZone w.heap.size w' Y e ∧ Below w.heap.size w w' := by
  refine (zGive_do w foz fn fc to_ tn tc z a s h hM hr _ hG).mono ?_
  rintro e w' ⟨⟨Z, e1, h1⟩ | ⟨e1, _⟩, hb⟩
  · cases e1
    exact ⟨h1, hb⟩
  · cases e1
set_option maxRecDepth 10000 in
set_option maxHeartbeats 4000000 in
theorem pNewZone_ok (w : World) (zf zt : Int) (ao : Option Addr) (n cap : Nat) (l : List (Int × Int)) (hR : Regs w ao n l) (hM : MayP l) (hn : newOk zf zt) :
    Calls Try.prog 20 #[.int .i64 zf, .int .i64 zt, .slice ao n cap] w fun e w' => (∃ Z foz fn fc to_ tn tc, e = .returned (.tuple #[.agg #[.int .i64 Z.f, .int .i64 Z.t, .slice foz fn fc, .slice to_ tn tc], .int .i64 0]) ∧ ZNew Z zf zt (inZ l zf zt) ∧ ZnAt w' foz fn to_ tn Z ∧ OffZ (fun q => w.heap.size ≤ q) foz to_ Z) ∧ Below w.heap.size w w' := by
  obtain ⟨Z0, hZ0, HZ0⟩ : ∃ Z0, ZNew Z0 zf zt (inZ (l.take 0) zf zt) ∧ ∀ W, Calls Try.prog 58 #[.int .i64 zf, .int .i64 zt] W fun e w' => RetZone W.heap.size w' Z0 e ∧ Below W.heap.size W w' :=
    ⟨newZ zf zt, (znew_zero hn).congr (fun p => by simp [inZ, inL]), fun W => zNew_ok W zf zt hn⟩
  have B0 := Below.refl w.heap.size w
  refine sx_enter (args := [_, _, _]) 59 Try.func20 rfl rfl rfl ?_
  intro A f
  refine wp_seq ?_
  refine sx_list ?_
  refine l_alloc (z := .agg #[.int .i64 0, .int .i64 0, .slice none 0 0, .slice none 0 0]) f rfl rfl rfl rfl (by kernel_rfl) ?_; clear f A; intro b1 W2 eb1 hb3 rb1 A f; dsimp only [Value.cells] at rb1
  have z_B0_b1 := B0.size; rw [eb1] at z_B0_b1
  replace B0 := Below.next B0 hb3
  refine l_do f rfl rfl rfl (y_assign rfl rfl) ?_; clear f A; intro A f
  refine wpList_nil ?_
  refine x_tn ?_
  refine wp_seq ?_
  refine sx_list ?_
  refine l_do f rfl rfl rfl (y_move rfl rfl) ?_; clear f A; intro A f
  refine l_do f rfl rfl rfl (y_move rfl rfl) ?_; clear f A; intro A f
  have lz_b1 := row_lt rb1
  have lzB := B0.size
  refine l_call f rfl rfl rfl (IsCall.mk' (cap := []) rfl rfl rfl) (pl rfl) (HZ0 _) ?_
  clear f A
  rintro _ W4 ⟨⟨fo0, fn0, fc0, to0, tn0, tc0, rfl, hz, hf0, ht0⟩, hb5⟩
  refine ⟨_, rfl, ?_⟩
  intro A f
  replace B0 := Below.next B0 hb5; replace rb1 := row_next rb1 hb5
  refine l_do f rfl rfl rfl (y_move rfl rfl) ?_; clear f A; intro A f
  have hzl := hz
  refine l_do f rfl rfl rfl (y_ext rfl rfl rfl) ?_; clear f A; intro A f
  refine l_do f rfl rfl rfl (y_ext rfl rfl rfl) ?_; clear f A; intro A f
  refine l_as (z := .agg #[.int .i64 0, .int .i64 0, .slice none 0 0, .slice none 0 0]) f rfl rfl rfl rfl (by kernel_rfl) rfl rfl (fun _ => rfl) (fun _ => rfl) rfl (by intro u hu; simp [Value.cells] at hu; rcases hu with rfl | rfl | rfl | rfl <;> rfl) ?_; clear f A; intro b6 W7 eb6 hb8 rb6 A f
  dsimp only [Value.cells] at rb6
  have hpb6 := hb8
  have o_b1_b6 : b1 < b6 := by have := row_lt rb1; omega
  have z_B0_b6 := B0.size; rw [eb6] at z_B0_b6
  replace B0 := Below.next B0 hb8; replace hz := hz.below hb8; replace rb1 := row_next rb1 hb8
  refine l_do f rfl rfl rfl (y_assign rfl rfl) ?_; clear f A; intro A f
  refine wpList_nil ?_
  refine x_tn ?_
  refine wp_seq ?_
  refine wp_seq ?_
  refine sx_list ?_
  have hof : OffZ (fun q => w.heap.size ≤ q ∧ q ≠ b1 ∧ q ≠ b6) fo0 to0 Z0 := ⟨fun h a ha => by have h1 := hf0 a ha; have h2 := blks_lt hzl.free h a ha; omega, fun h a ha => by have h1 := ht0 a ha; have h2 := nums_lt hzl.types h a ha; omega⟩
  refine l_do f rfl rfl rfl (y_move rfl rfl) ?_; clear f A; intro A f
  refine l_if _ f rfl rfl rfl (y_neq rfl rfl rfl) ?_ ?_
  · intro c9; exfalso; omega
  · clear f A; intro c9 A f
    refine wpList_nil ?_
    refine x_tn ?_
    refine x_condF f rfl ?_
    refine wp_skip ?_
    refine x_tn ?_
    refine wp_seq ?_
    refine wp_seq ?_
    refine sx_list ?_
    refine l_do f rfl rfl rfl (y_move rfl rfl) ?_; clear f A; intro A f
    refine l_do f rfl rfl rfl (y_len rfl rfl (sl rfl)) ?_; clear f A; intro A f
    refine l_do f rfl rfl rfl (y_move rfl rfl) ?_; clear f A; intro A f
    refine wpList_nil ?_
    refine x_tn ?_
    refine wp_block ?_
    have hl := hR.len
    have hr := hR.reach
    refine x_loop (fun m A W => ∃ (k : Nat) (Z : Zn) (foz : Option Addr) (fn fc : Nat) (to_ : Option Addr) (tn tc : Nat), m = n - k ∧ k ≤ n ∧ Fr A 59 [(0, .int .i64 zf), (1, .int .i64 zt), (6, .pointer (some ⟨b1, 0, none⟩)), (8, .pointer (some ⟨b6, 0, none⟩)), (24, .slice ao n cap), (25, .int .i64 (n : Nat)), (26, .int .i64 (k : Nat))] ∧ Below w.heap.size w W ∧ ZNew Z zf zt (inZ (l.take k) zf zt) ∧ ZnAt W foz fn to_ tn Z ∧ OffZ (fun q => w.heap.size ≤ q ∧ q ≠ b1 ∧ q ≠ b6) foz to_ Z ∧ W.heap[b6]? = some (.cells #[.int .i64 Z.f, .int .i64 Z.t, .slice foz fn fc, .slice to_ tn tc] 44 (0, 0)) ∧ W.heap[b1]? = some (.cells #[.int .i64 0, .int .i64 0, .slice none 0 0, .slice none 0 0] 44 (0, 0))) (n0 := n) (⟨0, Z0, fo0, fn0, fc0, to0, tn0, tc0, rfl, Nat.zero_le _, f.sub ⟨rfl, rfl, rfl, rfl, rfl, rfl, rfl, trivial⟩, B0, hZ0, hz, hof, rb6, rb1⟩) ?_
    clear f A
    clear B0 hz hof rb1 rb6 hf0 ht0
    rintro m A W10 ⟨k, Z, foz, fn, fc, to_, tn, tc, hm, hk, f, B0, hZ, hz, hof, rb6, rb1⟩
    refine wp_seq ?_
    refine sx_list ?_
    refine l_if _ f rfl rfl rfl (y_lss rfl rfl rfl) ?_ ?_
    · clear f A; intro c11 A f
      refine wpList_nil ?_
      refine x_tn ?_
      refine wp_seq ?_
      refine x_condT f rfl ?_
      refine wp_skip ?_
      refine x_tn ?_
      refine wp_seq ?_
      refine wp_block ?_
      refine wp_seq ?_
      refine sx_list ?_
      obtain ⟨gr, xr, x, y, har, c0r, c1r, hXr⟩ := hR.at_.at k (by omega)
      replace c0r := St.of c0r; replace c1r := St.of c1r
      have hok := hM.ok k (by omega)
      rw [hXr.out] at hok
      unfold regOk at hok
      dsimp only at hok
      obtain ⟨s1, s2⟩ := znew_step hM hZ (by omega) hXr.out
      refine l_do f rfl rfl rfl (y_index rfl rfl (by first | rfl | assumption) rfl (es rfl) (by omega)) ?_; clear f A; intro A f
      refine l_do f rfl rfl rfl (y_loadN (vs := [_, _]) rfl rfl (ag rfl) rfl ⟨(by first | assumption | exact St.q c0r B0 | exact St.q c1r B0), (by first | assumption | exact St.q c0r B0 | exact St.q c1r B0), trivial⟩) ?_; clear f A; intro A f
      refine l_as (z := .agg #[.int .i64 0, .int .i64 0]) f rfl rfl rfl rfl (by kernel_rfl) rfl rfl (fun _ => rfl) (fun _ => rfl) rfl (by intro u hu; simp [Value.cells] at hu; rcases hu with rfl | rfl <;> rfl) ?_; clear f A; intro b12 W13 eb12 hb14 rb12 A f
      dsimp only [Value.cells] at rb12
      have hpb12 := hb14
      have o_b1_b12 : b1 < b12 := by have := row_lt rb1; omega
      have o_b6_b12 : b6 < b12 := by have := row_lt rb6; omega
      have z_B0_b12 := B0.size; rw [eb12] at z_B0_b12
      replace B0 := Below.next B0 hb14; replace hz := hz.below hb14; replace rb1 := row_next rb1 hb14; replace rb6 := row_next rb6 hb14
      refine wpList_nil ?_
      refine x_tn ?_
      refine wp_seq ?_
      refine sx_quiet (by kernel_rfl) (by kernel_rfl) ?_
      refine q_do f rfl rfl rfl (y_field rfl rfl (fo rfl)) ?_; clear f A; intro A f
      refine q_do f rfl rfl rfl (y_load1 rfl rfl (ag rfl) (rowl (rowq rb12) rfl)) ?_; clear f A; intro A f
      refine q_do f rfl rfl rfl (y_move rfl rfl) ?_; clear f A; intro A f
      refine q_do f rfl rfl rfl (y_max rfl rfl rfl) ?_; clear f A; intro A f
      refine q_do f rfl rfl rfl (y_field rfl rfl (fo rfl)) ?_; clear f A; intro A f
      refine q_do f rfl rfl rfl (y_load1 rfl rfl (ag rfl) (rowl (rowq rb12) rfl)) ?_; clear f A; intro A f
      refine q_do f rfl rfl rfl (y_field rfl rfl (fo rfl)) ?_; clear f A; intro A f
      refine q_do f rfl rfl rfl (y_load1 rfl rfl (ag rfl) (rowl (rowq rb12) rfl)) ?_; clear f A; intro A f
      refine q_do f rfl rfl rfl (y_add rfl rfl rfl rfl (by omega)) ?_; clear f A; intro A f
      refine q_do f rfl rfl rfl (y_move rfl rfl) ?_; clear f A; intro A f
      refine q_do f rfl rfl rfl (y_min rfl rfl rfl) ?_; clear f A; intro A f
      refine q_do f rfl rfl rfl (y_assign rfl rfl) ?_; clear f A; intro A f
      refine q_do f rfl rfl rfl (y_assign rfl rfl) ?_; clear f A; intro A f
      refine wpQuiet_nil ?_; intro W16 hb15; replace B0 := Below.next B0 hb15; replace hz := hz.below hb15; replace rb1 := row_next rb1 hb15; replace rb6 := row_next rb6 hb15; replace rb12 := row_next rb12 hb15
      refine x_tn ?_
      refine wp_seq ?_
      refine wp_seq ?_
      refine sx_list ?_
      refine l_do f rfl rfl rfl (y_move rfl rfl) ?_; clear f A; intro A f
      refine l_do f rfl rfl rfl (y_move rfl rfl) ?_; clear f A; intro A f
      refine l_if _ f rfl rfl rfl (y_geq rfl rfl rfl) ?_ ?_
      · clear f A; intro c17 A f
        refine wpList_nil ?_
        refine x_tn ?_
        refine x_condT f rfl ?_
        refine wp_exit ?_
        refine x_te ?_
        refine x_bh ?_
        refine x_tn ?_
        refine sx_list ?_
        refine l_do f rfl rfl rfl (y_add rfl rfl rfl rfl (by omega)) ?_; clear f A; intro A f
        refine l_do f rfl rfl rfl (y_move rfl rfl) ?_; clear f A; intro A f
        refine wpList_nil ?_
        refine x_tn ?_
        exact ⟨n - (k + 1), by omega, k + 1, Z, foz, fn, fc, to_, tn, tc, rfl, by omega, f.sub ⟨rfl, rfl, rfl, rfl, rfl, rfl, rfl, trivial⟩, B0, s2 (by omega), hz, hof, rb6, rb1⟩
      · clear f A; intro c17 A f
        refine wpList_nil ?_
        refine x_tn ?_
        refine x_condF f rfl ?_
        refine wp_skip ?_
        refine x_tn ?_
        refine wp_seq ?_
        refine sx_list ?_
        obtain ⟨hg, Y, hY, hZ2⟩ := s1 (by omega)
        refine l_do f rfl rfl rfl (y_loadN (vs := [_, _, _, _]) rfl rfl (ag rfl) rfl (rowls (rowq rb6) _ _ ⟨rfl, rfl, rfl, rfl, trivial⟩)) ?_; clear f A; intro A f
        refine l_do f rfl rfl rfl (y_move rfl rfl) ?_; clear f A; intro A f
        refine l_do f rfl rfl rfl (y_move rfl rfl) ?_; clear f A; intro A f
        refine l_do f rfl rfl rfl (y_move rfl rfl) ?_; clear f A; intro A f
        refine l_do f rfl rfl rfl (y_sub rfl rfl rfl rfl (by omega)) ?_; clear f A; intro A f
        have lz_b1 := row_lt rb1
        have lz_b6 := row_lt rb6
        have lz_b12 := row_lt rb12
        have lzB := B0.size
        refine l_call f rfl rfl rfl (IsCall.mk' (cap := []) rfl rfl rfl) (pl rfl) (zGive_some _ foz fn fc to_ tn tc Z _ _ hz hZ.may hg hY) ?_
        clear f A
        rintro _ W18 ⟨⟨fo2, fn2, fc2, to2, tn2, tc2, rfl, hz2, hf2, ht2⟩, hb19⟩
        refine ⟨_, rfl, ?_⟩
        intro A f
        replace B0 := Below.next B0 hb19; replace hz := hz.below hb19; replace rb1 := row_next rb1 hb19; replace rb6 := row_next rb6 hb19; replace rb12 := row_next rb12 hb19
        have hof2 : OffZ (fun q => w.heap.size ≤ q ∧ q ≠ b1 ∧ q ≠ b6) fo2 to2 Y := ⟨fun _ a ha => by have := hf2 a ha; omega, fun _ a ha => by have := ht2 a ha; omega⟩
        refine l_do f rfl rfl rfl (y_move rfl rfl) ?_; clear f A; intro A f
        refine l_do f rfl rfl rfl (y_ext rfl rfl rfl) ?_; clear f A; intro A f
        refine l_do f rfl rfl rfl (y_ext rfl rfl rfl) ?_; clear f A; intro A f
        refine l_store f rfl rfl rfl rfl rfl rb6 (sz rfl) rfl (Nat.le_of_ble_eq_true rfl) rfl ?_
        clear rb6; intro W20 hb21 rb6; dsimp only [setL, over, Value.cells] at rb6; replace B0 := Below.thenBut B0 hb21 (by omega); replace rb1 := But.row hb21 rb1 (by omega); replace rb12 := But.row hb21 rb12 (by omega); replace hz2 := zn_but hz2 hb21 (fun h a ha => (hof2.f h a ha).2.2) (fun h a ha => (hof2.t h a ha).2.2)
        refine l_do f rfl rfl rfl (y_assign rfl rfl) ?_; clear f A; intro A f
        refine wpList_nil ?_
        refine x_tn ?_
        refine wp_seq ?_
        refine sx_list ?_
        refine l_do f rfl rfl rfl (y_move rfl rfl) ?_; clear f A; intro A f
        refine l_if _ f rfl rfl rfl (y_neq rfl rfl rfl) ?_ ?_
        · intro c22; exfalso; omega
        · clear f A; intro c22 A f
          refine wpList_nil ?_
          refine x_tn ?_
          refine x_condF f rfl ?_
          refine wp_skip ?_
          refine x_bn ?_
          refine x_tn ?_
          refine sx_list ?_
          refine l_do f rfl rfl rfl (y_add rfl rfl rfl rfl (by omega)) ?_; clear f A; intro A f
          refine l_do f rfl rfl rfl (y_move rfl rfl) ?_; clear f A; intro A f
          refine wpList_nil ?_
          refine x_tn ?_
          exact ⟨n - (k + 1), by omega, k + 1, Y, fo2, fn2, fc2, to2, tn2, tc2, rfl, by omega, f.sub ⟨rfl, rfl, rfl, rfl, rfl, rfl, rfl, trivial⟩, B0, hZ2, hz2, hof2, rb6, rb1⟩
    · clear f A; intro c11 A f
      refine wpList_nil ?_
      refine x_tn ?_
      refine wp_seq ?_
      refine x_condF f rfl ?_
      refine wp_exit ?_
      refine x_te ?_
      refine x_te ?_
      refine x_bh ?_
      refine x_tn ?_
      refine wp_seq ?_
      refine sx_list ?_
      skip
      refine l_do f rfl rfl rfl (y_loadN (vs := [_, _, _, _]) rfl rfl (ag rfl) rfl (rowls (rowq rb6) _ _ ⟨rfl, rfl, rfl, rfl, trivial⟩)) ?_; clear f A; intro A f
      refine l_store f rfl rfl rfl rfl rfl rb1 (sz rfl) rfl (Nat.le_of_ble_eq_true rfl) rfl ?_
      clear rb1; intro W23 hb24 rb1; dsimp only [setL, over, Value.cells] at rb1; replace B0 := Below.thenBut B0 hb24 (by omega); replace rb6 := But.row hb24 rb6 (by omega); replace hz := zn_but hz hb24 (fun h a ha => (hof.f h a ha).2.1) (fun h a ha => (hof.t h a ha).2.1)
      refine l_do f rfl rfl rfl (y_assign rfl rfl) ?_; clear f A; intro A f
      refine wpList_nil ?_
      refine x_tn ?_
      refine wp_ret ?_
      refine x_retc1 f rfl rfl rfl (ag rfl) rb1 rfl ?_
      -- return 0: ¬c9@21 ¬c11@27
      have ek : k = n := by omega
      rw [ek, List.take_of_length_le (by omega)] at hZ
      exact ⟨⟨Z, foz, fn, fc, to_, tn, tc, rfl, hZ, hz, fun h a ha => (hof.f h a ha).1, fun h a ha => (hof.t h a ha).1⟩, B0⟩

set_option maxRecDepth 10000 in
set_option maxHeartbeats 4000000 in
theorem pNewZone_no (w : World) (zf zt : Int) (ao : Option Addr) (n cap : Nat) (wf : (Lit.int .i64 zf).wf = true) (wt : (Lit.int .i64 zt).wf = true) (hn : ¬ newOk zf zt) :
    Calls Try.prog 20 #[.int .i64 zf, .int .i64 zt, .slice ao n cap] w fun e w' => RetNone 1 e ∧ Below w.heap.size w w' := by
  have B0 := Below.refl w.heap.size w
  refine sx_enter (args := [_, _, _]) 59 Try.func20 rfl rfl rfl ?_
  intro A f
  refine wp_seq ?_
  refine sx_list ?_
  refine l_alloc (z := .agg #[.int .i64 0, .int .i64 0, .slice none 0 0, .slice none 0 0]) f rfl rfl rfl rfl (by kernel_rfl) ?_; clear f A; intro b1 W2 eb1 hb3 rb1 A f; dsimp only [Value.cells] at rb1
  have z_B0_b1 := B0.size; rw [eb1] at z_B0_b1
  replace B0 := Below.next B0 hb3
  refine l_do f rfl rfl rfl (y_assign rfl rfl) ?_; clear f A; intro A f
  refine wpList_nil ?_
  refine x_tn ?_
  refine wp_seq ?_
  refine sx_list ?_
  refine l_do f rfl rfl rfl (y_move rfl rfl) ?_; clear f A; intro A f
  refine l_do f rfl rfl rfl (y_move rfl rfl) ?_; clear f A; intro A f
  have lz_b1 := row_lt rb1
  have lzB := B0.size
  refine l_call f rfl rfl rfl (IsCall.mk' (cap := []) rfl rfl rfl) (pl rfl) (zNew_no _ zf zt wf wt hn) ?_
  clear f A
  rintro _ W4 ⟨rfl, hb5⟩
  refine ⟨_, rfl, ?_⟩
  intro A f
  replace B0 := Below.next B0 hb5; replace rb1 := row_next rb1 hb5
  refine l_do f rfl rfl rfl (y_move rfl rfl) ?_; clear f A; intro A f
  refine l_do f rfl rfl rfl (y_ext rfl rfl rfl) ?_; clear f A; intro A f
  refine l_do f rfl rfl rfl (y_ext rfl rfl rfl) ?_; clear f A; intro A f
  refine l_as (z := .agg #[.int .i64 0, .int .i64 0, .slice none 0 0, .slice none 0 0]) f rfl rfl rfl rfl (by kernel_rfl) rfl rfl (fun _ => rfl) (fun _ => rfl) rfl (by intro u hu; simp [Value.cells] at hu; rcases hu with rfl | rfl | rfl | rfl <;> rfl) ?_; clear f A; intro b6 W7 eb6 hb8 rb6 A f
  dsimp only [Value.cells] at rb6
  have hpb6 := hb8
  have o_b1_b6 : b1 < b6 := by have := row_lt rb1; omega
  have z_B0_b6 := B0.size; rw [eb6] at z_B0_b6
  replace B0 := Below.next B0 hb8; replace rb1 := row_next rb1 hb8
  refine l_do f rfl rfl rfl (y_assign rfl rfl) ?_; clear f A; intro A f
  refine wpList_nil ?_
  refine x_tn ?_
  refine wp_seq ?_
  refine wp_seq ?_
  refine sx_list ?_
  refine l_do f rfl rfl rfl (y_move rfl rfl) ?_; clear f A; intro A f
  refine l_if _ f rfl rfl rfl (y_neq rfl rfl rfl) ?_ ?_
  · clear f A; intro c9 A f
    refine wpList_nil ?_
    refine x_tn ?_
    refine x_condT f rfl ?_
    refine wp_seq ?_
    refine sx_list ?_
    refine l_do f rfl rfl rfl (y_build #[.int .i64 0, .int .i64 0, .slice none 0 0, .slice none 0 0] rfl rfl (by kernel_rfl)) ?_; clear f A; intro A f
    refine l_do f rfl rfl rfl (y_move rfl rfl) ?_; clear f A; intro A f
    refine l_store f rfl rfl rfl rfl rfl rb1 (sz rfl) rfl (Nat.le_of_ble_eq_true rfl) rfl ?_
    clear rb1; intro W10 hb11 rb1; dsimp only [setL, over, Value.cells] at rb1; replace B0 := Below.thenBut B0 hb11 (by omega); replace rb6 := But.row hb11 rb6 (by omega)
    refine l_do f rfl rfl rfl (y_assign rfl rfl) ?_; clear f A; intro A f
    refine wpList_nil ?_
    refine x_tn ?_
    refine wp_ret ?_
    refine x_tr ?_
    refine x_retc1 f rfl rfl rfl (ag rfl) rb1 rfl ?_
    -- return 0: c9@21
    exact ⟨rfl, B0⟩
  · intro c9; exfalso; omega

theorem pIsMin_c (w : World) (x : Int) : Calls Try.prog 21 #[.int .i64 x] w fun e w' => e = .returned (.bool (decide (0 ≤ x ∧ x ≤ 256))) ∧ Below w.heap.size w w' := c_same (pIsMin_any w x)
theorem pAreCpus_c (w : World) (x : Int) : Calls Try.prog 22 #[.int .i64 x] w fun e w' => e = .returned (.bool (decide (1 ≤ x ∧ x ≤ 4))) ∧ Below w.heap.size w w' := c_same (pAreCpus_any w x)

set_option maxRecDepth 10000 in
set_option maxHeartbeats 4000000 in
theorem pNew_ok (w : World) (split least cpus : Int) (ao : Option Addr) (n cap : Nat) (l : List (Int × Int)) (hR : Regs w ao n l) (hM : MayP l) (hn0 : newOk 0 split) :
    Calls Try.prog 8 #[.slice ao n cap, .int .i64 split, .int .i64 least, .int .i64 cpus] w fun e w' => ((¬ newGood least cpus ∧ e = .returned (.tuple #[.agg #[.slice none 0 0, .slice none 0 0, .int .i64 0, .slice none 0 0, .slice none 0 0], .int .i64 1])) ∨ (newGood least cpus ∧ ∃ y : Hx, e = .returned (.tuple #[.agg #[.slice y.zo y.zn y.zc, .slice y.mo y.mn y.mc, .int .i64 y.cpus, .slice y.lo y.ln y.lc, .slice y.vo y.vn y.vc], .int .i64 0]) ∧ NewH y.hp l split least cpus ∧ y.At w')) ∧ Below w.heap.size w w' := by
  have hn1 := newOk_high hn0
  have B0 := Below.refl w.heap.size w
  refine sx_enter (args := [_, _, _, _]) 58 Try.func8 rfl rfl rfl ?_
  intro A f
  refine wp_seq ?_
  refine sx_list ?_
  refine l_alloc (z := .agg #[.slice none 0 0, .slice none 0 0, .int .i64 0, .slice none 0 0, .slice none 0 0]) f rfl rfl rfl rfl (by kernel_rfl) ?_; clear f A; intro b1 W2 eb1 hb3 rb1 A f; dsimp only [Value.cells] at rb1
  have z_B0_b1 := B0.size; rw [eb1] at z_B0_b1
  replace B0 := Below.next B0 hb3
  refine l_do f rfl rfl rfl (y_assign rfl rfl) ?_; clear f A; intro A f
  refine wpList_nil ?_
  refine x_tn ?_
  refine wp_seq ?_
  refine wp_seq ?_
  refine sx_list ?_
  refine l_do f rfl rfl rfl (y_move rfl rfl) ?_; clear f A; intro A f
  refine l_do f rfl rfl rfl (y_build #[.slice ao n cap, .slice none 0 0] rfl rfl (by kernel_rfl)) ?_; clear f A; intro A f
  refine l_call f rfl rfl rfl (IsCall.mk' (cap := []) rfl rfl rfl) (pl rfl) (cCheck_ok _ ao n cap l none 0 0 [] (hR.below B0) (regs_none _) ⟨hM, mayP_nil⟩) ?_; clear f A; rintro _ W5 ⟨rfl, hb4⟩; refine ⟨_, rfl, ?_⟩; intro A f; replace B0 := Below.next B0 hb4; replace rb1 := row_next rb1 hb4
  refine l_do f rfl rfl rfl (y_assign rfl rfl) ?_; clear f A; intro A f
  refine wpList_nil ?_
  refine x_tn ?_
  refine wp_seq ?_
  refine sx_list ?_
  refine l_do f rfl rfl rfl (y_move rfl rfl) ?_; clear f A; intro A f
  refine l_if _ f rfl rfl rfl (y_neq rfl rfl rfl) ?_ ?_
  · intro c6; exfalso; omega
  · clear f A; intro c6 A f
    refine wpList_nil ?_
    refine x_tn ?_
    refine x_condF f rfl ?_
    refine wp_skip ?_
    refine x_tn ?_
    refine wp_seq ?_
    refine sx_list ?_
    refine l_do f rfl rfl rfl (y_move rfl rfl) ?_; clear f A; intro A f
    refine l_do f rfl rfl rfl (y_move rfl rfl) ?_; clear f A; intro A f
    have hb10 := B0.size
    have lz_b1 := row_lt rb1
    have lzB := B0.size
    refine l_call f rfl rfl rfl (IsCall.mk' (cap := []) rfl rfl rfl) (pl rfl) (pNewZone_ok _ 0 split ao n cap l (hR.below B0) hM hn0) ?_
    clear f A
    rintro _ W7 ⟨⟨Z0, foz0, fn0, fc0, to0, tn0, tc0, rfl, hZ0, hz0, ho0⟩, hb8⟩
    refine ⟨_, rfl, ?_⟩
    intro A f
    replace B0 := Below.next B0 hb8; replace rb1 := row_next rb1 hb8
    replace ho0 : OffZ (fun q => q ≠ b1) foz0 to0 Z0 := ⟨fun h a ha => by have h1 := ho0.f h a ha; omega, fun h a ha => by have h1 := ho0.t h a ha; omega⟩
    refine l_do f rfl rfl rfl (y_move rfl rfl) ?_; clear f A; intro A f
    refine l_do f rfl rfl rfl (y_ext rfl rfl rfl) ?_; clear f A; intro A f
    refine l_do f rfl rfl rfl (y_ext rfl rfl rfl) ?_; clear f A; intro A f
    refine l_as (z := .agg #[.int .i64 0, .int .i64 0, .slice none 0 0, .slice none 0 0]) f rfl rfl rfl rfl (by kernel_rfl) rfl rfl (fun _ => rfl) (fun _ => rfl) rfl (by intro u hu; simp [Value.cells] at hu; rcases hu with rfl | rfl | rfl | rfl <;> rfl) ?_; clear f A; intro b9 W10 eb9 hb11 rb9 A f
    dsimp only [Value.cells] at rb9
    have hpb9 := hb11
    have o_b1_b9 : b1 < b9 := by have := row_lt rb1; omega
    have z_B0_b9 := B0.size; rw [eb9] at z_B0_b9
    replace B0 := Below.next B0 hb11; replace hz0 := hz0.below hb11; replace rb1 := row_next rb1 hb11
    refine l_do f rfl rfl rfl (y_assign rfl rfl) ?_; clear f A; intro A f
    refine wpList_nil ?_
    refine x_tn ?_
    refine wp_seq ?_
    refine wp_seq ?_
    refine sx_list ?_
    refine l_do f rfl rfl rfl (y_move rfl rfl) ?_; clear f A; intro A f
    refine l_if _ f rfl rfl rfl (y_neq rfl rfl rfl) ?_ ?_
    · intro c12; exfalso; omega
    · clear f A; intro c12 A f
      refine wpList_nil ?_
      refine x_tn ?_
      refine x_condF f rfl ?_
      refine wp_skip ?_
      refine x_tn ?_
      refine wp_seq ?_
      refine sx_list ?_
      refine l_do f rfl rfl rfl (y_move rfl rfl) ?_; clear f A; intro A f
      refine l_do f rfl rfl rfl (y_move rfl rfl) ?_; clear f A; intro A f
      have hb11 := B0.size
      have lz_b1 := row_lt rb1
      have lz_b9 := row_lt rb9
      have lzB := B0.size
      refine l_call f rfl rfl rfl (IsCall.mk' (cap := []) rfl rfl rfl) (pl rfl) (pNewZone_ok _ split 256 ao n cap l (hR.below B0) hM hn1) ?_
      clear f A
      rintro _ W13 ⟨⟨Z1, foz1, fn1, fc1, to1, tn1, tc1, rfl, hZ1, hz1, ho1⟩, hb14⟩
      refine ⟨_, rfl, ?_⟩
      intro A f
      replace B0 := Below.next B0 hb14; replace hz0 := hz0.below hb14; replace rb1 := row_next rb1 hb14; replace rb9 := row_next rb9 hb14
      replace ho1 : OffZ (fun q => q ≠ b1) foz1 to1 Z1 := ⟨fun h a ha => by have h1 := ho1.f h a ha; omega, fun h a ha => by have h1 := ho1.t h a ha; omega⟩
      refine l_do f rfl rfl rfl (y_move rfl rfl) ?_; clear f A; intro A f
      refine l_do f rfl rfl rfl (y_ext rfl rfl rfl) ?_; clear f A; intro A f
      refine l_do f rfl rfl rfl (y_ext rfl rfl rfl) ?_; clear f A; intro A f
      refine l_as (z := .agg #[.int .i64 0, .int .i64 0, .slice none 0 0, .slice none 0 0]) f rfl rfl rfl rfl (by kernel_rfl) rfl rfl (fun _ => rfl) (fun _ => rfl) rfl (by intro u hu; simp [Value.cells] at hu; rcases hu with rfl | rfl | rfl | rfl <;> rfl) ?_; clear f A; intro b15 W16 eb15 hb17 rb15 A f
      dsimp only [Value.cells] at rb15
      have hpb15 := hb17
      have o_b1_b15 : b1 < b15 := by have := row_lt rb1; omega
      have o_b9_b15 : b9 < b15 := by have := row_lt rb9; omega
      have z_B0_b15 := B0.size; rw [eb15] at z_B0_b15
      replace B0 := Below.next B0 hb17; replace hz0 := hz0.below hb17; replace hz1 := hz1.below hb17; replace rb1 := row_next rb1 hb17; replace rb9 := row_next rb9 hb17
      refine l_do f rfl rfl rfl (y_assign rfl rfl) ?_; clear f A; intro A f
      refine wpList_nil ?_
      refine x_tn ?_
      refine wp_seq ?_
      refine wp_seq ?_
      refine sx_list ?_
      refine l_do f rfl rfl rfl (y_move rfl rfl) ?_; clear f A; intro A f
      refine l_if _ f rfl rfl rfl (y_neq rfl rfl rfl) ?_ ?_
      · intro c18; exfalso; omega
      · clear f A; intro c18 A f
        refine wpList_nil ?_
        refine x_tn ?_
        refine x_condF f rfl ?_
        refine wp_skip ?_
        refine x_tn ?_
        refine wp_seq ?_
        refine wp_seq ?_
        refine sx_list ?_
        refine l_do f rfl rfl rfl (y_move rfl rfl) ?_; clear f A; intro A f
        refine l_callif _ f rfl rfl rfl (IsCall.mk' (cap := []) rfl rfl rfl) (pl rfl) (pIsMin_c _ _) ?_ ?_
        · clear f A; intro c19 W21 hb20 A f
          replace B0 := Below.next B0 hb20; replace hz0 := hz0.below hb20; replace hz1 := hz1.below hb20; replace rb1 := row_next rb1 hb20; replace rb9 := row_next rb9 hb20; replace rb15 := row_next rb15 hb20
          refine l_do f rfl rfl rfl (y_not rfl rfl) ?_; clear f A; intro A f
          refine l_do f rfl rfl rfl (y_move rfl rfl) ?_; clear f A; intro A f
          refine l_do f rfl rfl rfl (y_move rfl rfl) ?_; clear f A; intro A f
          refine l_callif _ f rfl rfl rfl (IsCall.mk' (cap := []) rfl rfl rfl) (pl rfl) (pAreCpus_c _ _) ?_ ?_
          · clear f A; intro c22 W24 hb23 A f
            replace B0 := Below.next B0 hb23; replace hz0 := hz0.below hb23; replace hz1 := hz1.below hb23; replace rb1 := row_next rb1 hb23; replace rb9 := row_next rb9 hb23; replace rb15 := row_next rb15 hb23
            refine l_do f rfl rfl rfl (y_not rfl rfl) ?_; clear f A; intro A f
            refine l_do f rfl rfl rfl (y_pick rfl rfl rfl) ?_; clear f A; intro A f
            refine wpList_nil ?_
            refine x_tn ?_
            refine x_condF f rfl ?_
            refine wp_skip ?_
            refine x_tn ?_
            refine wp_seq ?_
            refine sx_list ?_
            refine l_do f rfl rfl rfl (y_loadN (vs := [_, _, _, _]) rfl rfl (ag rfl) rfl (rowls (rowq rb9) _ _ ⟨rfl, rfl, rfl, rfl, trivial⟩)) ?_; clear f A; intro A f
            refine l_do f rfl rfl rfl (y_loadN (vs := [_, _, _, _]) rfl rfl (ag rfl) rfl (rowls (rowq rb15) _ _ ⟨rfl, rfl, rfl, rfl, trivial⟩)) ?_; clear f A; intro A f
            obtain ⟨gz, hgz⟩ : ∃ g, g = W24.heap.size := ⟨_, rfl⟩
            have lg_b1 := row_lt rb1
            have lg_b9 := row_lt rb9
            have lg_b15 := row_lt rb15
            have lg_w := B0.size
            refine l_opR (R := fun v W => v = .slice (some ⟨gz, 0, none⟩) 2 2 ∧ Below W24.heap.size W24 W ∧ W.heap[gz]? = some (.cells #[.int .i64 Z0.f, .int .i64 Z0.t, .slice foz0 fn0 fc0, .slice to0 tn0 tc0, .int .i64 Z1.f, .int .i64 Z1.t, .slice foz1 fn1 fc1, .slice to1 tn1 tc1] 44 (0, 0))) f rfl rfl rfl ⟨_, _, bs_exec f rfl rfl (bs_zone2 _ _ _ _ _ _ _ _ _), by rw [hgz], (Below.refl _ _).alloc (Nat.le_refl _) _, by rw [hgz]; show (Array.push _ _)[_]? = _; rw [Array.getElem?_push, if_pos rfl]⟩ ?_
            clear f A
            rintro _ W25 ⟨rfl, hb26, rgz⟩ A f
            replace B0 := Below.next B0 hb26; replace hz0 := hz0.below hb26; replace hz1 := hz1.below hb26; replace rb1 := row_next rb1 hb26; replace rb9 := row_next rb9 hb26; replace rb15 := row_next rb15 hb26
            refine l_do f rfl rfl rfl (y_move rfl rfl) ?_; clear f A; intro A f
            refine l_do f rfl rfl rfl (y_move rfl rfl) ?_; clear f A; intro A f
            obtain ⟨gm, hgm⟩ : ∃ g, g = W25.heap.size := ⟨_, rfl⟩
            have lm_b1 := row_lt rb1
            have lm_b9 := row_lt rb9
            have lm_b15 := row_lt rb15
            have lm_gz := row_lt rgz
            refine l_opR (R := fun v W => v = .slice (some ⟨gm, 0, none⟩) 2 2 ∧ Below W25.heap.size W25 W ∧ W.heap[gm]? = some (.cells #[.int .i64 least, .int .i64 least] 3 (0, 0))) f rfl rfl rfl ⟨_, _, bs_exec f rfl rfl (bs_int2 _ _ _), by rw [hgm], (Below.refl _ _).alloc (Nat.le_refl _) _, by rw [hgm]; show (Array.push _ _)[_]? = _; rw [Array.getElem?_push, if_pos rfl]⟩ ?_
            clear f A
            rintro _ W27 ⟨rfl, hb28, rgm⟩ A f
            replace B0 := Below.next B0 hb28; replace hz0 := hz0.below hb28; replace hz1 := hz1.below hb28; replace rb1 := row_next rb1 hb28; replace rb9 := row_next rb9 hb28; replace rb15 := row_next rb15 hb28; replace rgz := row_next rgz hb28
            refine l_do f rfl rfl rfl (y_move rfl rfl) ?_; clear f A; intro A f
            refine l_do f rfl rfl rfl (y_build #[.slice (some ⟨gz, 0, none⟩) 2 2, .slice (some ⟨gm, 0, none⟩) 2 2, .int .i64 cpus, .slice none 0 0, .slice none 0 0] rfl rfl (by kernel_rfl)) ?_; clear f A; intro A f
            refine l_store f rfl rfl rfl rfl rfl rb1 (sz rfl) rfl (Nat.le_of_ble_eq_true rfl) rfl ?_
            clear rb1; intro W29 hb30 rb1; dsimp only [setL, over, Value.cells] at rb1; replace B0 := Below.thenBut B0 hb30 (by omega); replace rb9 := But.row hb30 rb9 (by omega); replace rb15 := But.row hb30 rb15 (by omega); replace rgz := But.row hb30 rgz (by omega); replace rgm := But.row hb30 rgm (by omega); replace hz0 := zn_but hz0 hb30 ho0.f ho0.t; replace hz1 := zn_but hz1 hb30 ho1.f ho1.t
            refine l_do f rfl rfl rfl (y_assign rfl rfl) ?_; clear f A; intro A f
            refine wpList_nil ?_
            refine x_tn ?_
            refine wp_ret ?_
            refine x_retc1 f rfl rfl rfl (ag rfl) rb1 rfl ?_
            -- return 0: ¬c12@28 ¬c18@38 c19@42 c22@46
            exact ⟨.inr ⟨⟨c19, c22⟩, newX ⟨Z0, foz0, fn0, fc0, to0, tn0, tc0⟩ ⟨Z1, foz1, fn1, fc1, to1, tn1, tc1⟩ gz gm least cpus, rfl, ⟨Z0, Z1, hZ0, hZ1, rfl⟩, newX_at rgz rgm hz0 hz1⟩, B0⟩
          · clear f A; intro c22 W24 hb23 A f
            replace B0 := Below.next B0 hb23; replace hz0 := hz0.below hb23; replace hz1 := hz1.below hb23; replace rb1 := row_next rb1 hb23; replace rb9 := row_next rb9 hb23; replace rb15 := row_next rb15 hb23
            refine l_do f rfl rfl rfl (y_not rfl rfl) ?_; clear f A; intro A f
            refine l_do f rfl rfl rfl (y_pick rfl rfl rfl) ?_; clear f A; intro A f
            refine wpList_nil ?_
            refine x_tn ?_
            refine x_condT f rfl ?_
            refine wp_seq ?_
            refine sx_list ?_
            refine l_do f rfl rfl rfl (y_build #[.slice none 0 0, .slice none 0 0, .int .i64 0, .slice none 0 0, .slice none 0 0] rfl rfl (by kernel_rfl)) ?_; clear f A; intro A f
            refine l_store f rfl rfl rfl rfl rfl rb1 (sz rfl) rfl (Nat.le_of_ble_eq_true rfl) rfl ?_
            clear rb1; intro W31 hb32 rb1; dsimp only [setL, over, Value.cells] at rb1; replace B0 := Below.thenBut B0 hb32 (by omega); replace rb9 := But.row hb32 rb9 (by omega); replace rb15 := But.row hb32 rb15 (by omega); replace hz0 := zn_but hz0 hb32 ho0.f ho0.t; replace hz1 := zn_but hz1 hb32 ho1.f ho1.t
            refine l_do f rfl rfl rfl (y_assign rfl rfl) ?_; clear f A; intro A f
            refine wpList_nil ?_
            refine x_tn ?_
            refine wp_ret ?_
            refine x_tr ?_
            refine x_retc1 f rfl rfl rfl (ag rfl) rb1 rfl ?_
            -- return 1: ¬c12@28 ¬c18@38 c19@42 ¬c22@46
            exact ⟨.inl ⟨fun h => c22 h.2, rfl⟩, B0⟩
        · clear f A; intro c19 W21 hb20 A f
          replace B0 := Below.next B0 hb20; replace hz0 := hz0.below hb20; replace hz1 := hz1.below hb20; replace rb1 := row_next rb1 hb20; replace rb9 := row_next rb9 hb20; replace rb15 := row_next rb15 hb20
          refine l_do f rfl rfl rfl (y_not rfl rfl) ?_; clear f A; intro A f
          refine l_do f rfl rfl rfl (y_move rfl rfl) ?_; clear f A; intro A f
          refine l_no f rfl rfl rfl ?_; clear f A; intro A f
          refine l_no f rfl rfl rfl ?_; clear f A; intro A f
          refine l_no f rfl rfl rfl ?_; clear f A; intro A f
          refine l_do f rfl rfl rfl (y_pick rfl rfl rfl) ?_; clear f A; intro A f
          refine wpList_nil ?_
          refine x_tn ?_
          refine x_condT f rfl ?_
          refine wp_seq ?_
          refine sx_list ?_
          refine l_do f rfl rfl rfl (y_build #[.slice none 0 0, .slice none 0 0, .int .i64 0, .slice none 0 0, .slice none 0 0] rfl rfl (by kernel_rfl)) ?_; clear f A; intro A f
          refine l_store f rfl rfl rfl rfl rfl rb1 (sz rfl) rfl (Nat.le_of_ble_eq_true rfl) rfl ?_
          clear rb1; intro W33 hb34 rb1; dsimp only [setL, over, Value.cells] at rb1; replace B0 := Below.thenBut B0 hb34 (by omega); replace rb9 := But.row hb34 rb9 (by omega); replace rb15 := But.row hb34 rb15 (by omega); replace hz0 := zn_but hz0 hb34 ho0.f ho0.t; replace hz1 := zn_but hz1 hb34 ho1.f ho1.t
          refine l_do f rfl rfl rfl (y_assign rfl rfl) ?_; clear f A; intro A f
          refine wpList_nil ?_
          refine x_tn ?_
          refine wp_ret ?_
          refine x_tr ?_
          refine x_retc1 f rfl rfl rfl (ag rfl) rb1 rfl ?_
          -- return 2: ¬c6@18 ¬c12@28 ¬c18@38 ¬c19@42
          exact ⟨.inl ⟨fun h => c19 h.1, rfl⟩, B0⟩

set_option maxRecDepth 10000 in
set_option maxHeartbeats 4000000 in
theorem pNew_no1 (w : World) (split least cpus : Int) (ao : Option Addr) (n cap : Nat) (l : List (Int × Int)) (hR : Regs w ao n l) (hM : MayP l) (ws : (Lit.int .i64 split).wf = true) (hn0 : ¬ newOk 0 split) :
    Calls Try.prog 8 #[.slice ao n cap, .int .i64 split, .int .i64 least, .int .i64 cpus] w fun e w' => e = .returned (.tuple #[.agg #[.slice none 0 0, .slice none 0 0, .int .i64 0, .slice none 0 0, .slice none 0 0], .int .i64 1]) ∧ Below w.heap.size w w' := by
  have B0 := Below.refl w.heap.size w
  refine sx_enter (args := [_, _, _, _]) 58 Try.func8 rfl rfl rfl ?_
  intro A f
  refine wp_seq ?_
  refine sx_list ?_
  refine l_alloc (z := .agg #[.slice none 0 0, .slice none 0 0, .int .i64 0, .slice none 0 0, .slice none 0 0]) f rfl rfl rfl rfl (by kernel_rfl) ?_; clear f A; intro b1 W2 eb1 hb3 rb1 A f; dsimp only [Value.cells] at rb1
  have z_B0_b1 := B0.size; rw [eb1] at z_B0_b1
  replace B0 := Below.next B0 hb3
  refine l_do f rfl rfl rfl (y_assign rfl rfl) ?_; clear f A; intro A f
  refine wpList_nil ?_
  refine x_tn ?_
  refine wp_seq ?_
  refine wp_seq ?_
  refine sx_list ?_
  refine l_do f rfl rfl rfl (y_move rfl rfl) ?_; clear f A; intro A f
  refine l_do f rfl rfl rfl (y_build #[.slice ao n cap, .slice none 0 0] rfl rfl (by kernel_rfl)) ?_; clear f A; intro A f
  refine l_call f rfl rfl rfl (IsCall.mk' (cap := []) rfl rfl rfl) (pl rfl) (cCheck_ok _ ao n cap l none 0 0 [] (hR.below B0) (regs_none _) ⟨hM, mayP_nil⟩) ?_; clear f A; rintro _ W5 ⟨rfl, hb4⟩; refine ⟨_, rfl, ?_⟩; intro A f; replace B0 := Below.next B0 hb4; replace rb1 := row_next rb1 hb4
  refine l_do f rfl rfl rfl (y_assign rfl rfl) ?_; clear f A; intro A f
  refine wpList_nil ?_
  refine x_tn ?_
  refine wp_seq ?_
  refine sx_list ?_
  refine l_do f rfl rfl rfl (y_move rfl rfl) ?_; clear f A; intro A f
  refine l_if _ f rfl rfl rfl (y_neq rfl rfl rfl) ?_ ?_
  · intro c6; exfalso; omega
  · clear f A; intro c6 A f
    refine wpList_nil ?_
    refine x_tn ?_
    refine x_condF f rfl ?_
    refine wp_skip ?_
    refine x_tn ?_
    refine wp_seq ?_
    refine sx_list ?_
    refine l_do f rfl rfl rfl (y_move rfl rfl) ?_; clear f A; intro A f
    refine l_do f rfl rfl rfl (y_move rfl rfl) ?_; clear f A; intro A f
    have lz_b1 := row_lt rb1
    have lzB := B0.size
    refine l_call f rfl rfl rfl (IsCall.mk' (cap := []) rfl rfl rfl) (pl rfl) (pNewZone_no _ 0 split ao n cap rfl ws hn0) ?_
    clear f A
    rintro _ W7 ⟨rfl, hb8⟩
    refine ⟨_, rfl, ?_⟩
    intro A f
    replace B0 := Below.next B0 hb8; replace rb1 := row_next rb1 hb8
    refine l_do f rfl rfl rfl (y_move rfl rfl) ?_; clear f A; intro A f
    refine l_do f rfl rfl rfl (y_ext rfl rfl rfl) ?_; clear f A; intro A f
    refine l_do f rfl rfl rfl (y_ext rfl rfl rfl) ?_; clear f A; intro A f
    refine l_as (z := .agg #[.int .i64 0, .int .i64 0, .slice none 0 0, .slice none 0 0]) f rfl rfl rfl rfl (by kernel_rfl) rfl rfl (fun _ => rfl) (fun _ => rfl) rfl (by intro u hu; simp [Value.cells] at hu; rcases hu with rfl | rfl | rfl | rfl <;> rfl) ?_; clear f A; intro b9 W10 eb9 hb11 rb9 A f
    dsimp only [Value.cells] at rb9
    have hpb9 := hb11
    have o_b1_b9 : b1 < b9 := by have := row_lt rb1; omega
    have z_B0_b9 := B0.size; rw [eb9] at z_B0_b9
    replace B0 := Below.next B0 hb11; replace rb1 := row_next rb1 hb11
    refine l_do f rfl rfl rfl (y_assign rfl rfl) ?_; clear f A; intro A f
    refine wpList_nil ?_
    refine x_tn ?_
    refine wp_seq ?_
    refine wp_seq ?_
    refine sx_list ?_
    refine l_do f rfl rfl rfl (y_move rfl rfl) ?_; clear f A; intro A f
    refine l_if _ f rfl rfl rfl (y_neq rfl rfl rfl) ?_ ?_
    · clear f A; intro c12 A f
      refine wpList_nil ?_
      refine x_tn ?_
      refine x_condT f rfl ?_
      refine wp_seq ?_
      refine sx_list ?_
      refine l_do f rfl rfl rfl (y_build #[.slice none 0 0, .slice none 0 0, .int .i64 0, .slice none 0 0, .slice none 0 0] rfl rfl (by kernel_rfl)) ?_; clear f A; intro A f
      refine l_do f rfl rfl rfl (y_move rfl rfl) ?_; clear f A; intro A f
      refine l_store f rfl rfl rfl rfl rfl rb1 (sz rfl) rfl (Nat.le_of_ble_eq_true rfl) rfl ?_
      clear rb1; intro W13 hb14 rb1; dsimp only [setL, over, Value.cells] at rb1; replace B0 := Below.thenBut B0 hb14 (by omega); replace rb9 := But.row hb14 rb9 (by omega)
      refine l_do f rfl rfl rfl (y_assign rfl rfl) ?_; clear f A; intro A f
      refine wpList_nil ?_
      refine x_tn ?_
      refine wp_ret ?_
      refine x_tr ?_
      refine x_retc1 f rfl rfl rfl (ag rfl) rb1 rfl ?_
      -- return 0: ¬c6@18 c12@28
      exact ⟨rfl, B0⟩
    · intro c12; exfalso; omega

set_option maxRecDepth 10000 in
set_option maxHeartbeats 4000000 in
theorem pNew_no8 (w : World) (split least cpus : Int) (ao : Option Addr) (n cap : Nat) (l : List (Int × Int)) (hR : Regs w ao n l) (hT : TopL l) (hM : ¬ MayP l) :
    Calls Try.prog 8 #[.slice ao n cap, .int .i64 split, .int .i64 least, .int .i64 cpus] w fun e w' => e = .returned (.tuple #[.agg #[.slice none 0 0, .slice none 0 0, .int .i64 0, .slice none 0 0, .slice none 0 0], .int .i64 8]) ∧ Below w.heap.size w w' := by
  have B0 := Below.refl w.heap.size w
  refine sx_enter (args := [_, _, _, _]) 58 Try.func8 rfl rfl rfl ?_
  intro A f
  refine wp_seq ?_
  refine sx_list ?_
  refine l_alloc (z := .agg #[.slice none 0 0, .slice none 0 0, .int .i64 0, .slice none 0 0, .slice none 0 0]) f rfl rfl rfl rfl (by kernel_rfl) ?_; clear f A; intro b1 W2 eb1 hb3 rb1 A f; dsimp only [Value.cells] at rb1
  have z_B0_b1 := B0.size; rw [eb1] at z_B0_b1
  replace B0 := Below.next B0 hb3
  refine l_do f rfl rfl rfl (y_assign rfl rfl) ?_; clear f A; intro A f
  refine wpList_nil ?_
  refine x_tn ?_
  refine wp_seq ?_
  refine wp_seq ?_
  refine sx_list ?_
  refine l_do f rfl rfl rfl (y_move rfl rfl) ?_; clear f A; intro A f
  refine l_do f rfl rfl rfl (y_build #[.slice ao n cap, .slice none 0 0] rfl rfl (by kernel_rfl)) ?_; clear f A; intro A f
  refine l_call f rfl rfl rfl (IsCall.mk' (cap := []) rfl rfl rfl) (pl rfl) (cCheck_no _ ao n cap l none 0 0 [] (hR.below B0) (regs_none _) hT topL_nil (fun h => hM h.1)) ?_; clear f A; rintro _ W5 ⟨rfl, hb4⟩; refine ⟨_, rfl, ?_⟩; intro A f; replace B0 := Below.next B0 hb4; replace rb1 := row_next rb1 hb4
  refine l_do f rfl rfl rfl (y_assign rfl rfl) ?_; clear f A; intro A f
  refine wpList_nil ?_
  refine x_tn ?_
  refine wp_seq ?_
  refine sx_list ?_
  refine l_do f rfl rfl rfl (y_move rfl rfl) ?_; clear f A; intro A f
  refine l_if _ f rfl rfl rfl (y_neq rfl rfl rfl) ?_ ?_
  · clear f A; intro c6 A f
    refine wpList_nil ?_
    refine x_tn ?_
    refine x_condT f rfl ?_
    refine wp_seq ?_
    refine sx_list ?_
    refine l_do f rfl rfl rfl (y_build #[.slice none 0 0, .slice none 0 0, .int .i64 0, .slice none 0 0, .slice none 0 0] rfl rfl (by kernel_rfl)) ?_; clear f A; intro A f
    refine l_do f rfl rfl rfl (y_move rfl rfl) ?_; clear f A; intro A f
    refine l_store f rfl rfl rfl rfl rfl rb1 (sz rfl) rfl (Nat.le_of_ble_eq_true rfl) rfl ?_
    clear rb1; intro W7 hb8 rb1; dsimp only [setL, over, Value.cells] at rb1; replace B0 := Below.thenBut B0 hb8 (by omega)
    refine l_do f rfl rfl rfl (y_assign rfl rfl) ?_; clear f A; intro A f
    refine wpList_nil ?_
    refine x_tn ?_
    refine wp_ret ?_
    refine x_tr ?_
    refine x_retc1 f rfl rfl rfl (ag rfl) rb1 rfl ?_
    -- return 0: c6@18
    exact ⟨rfl, B0⟩
  · intro c6; exfalso; omega


end Go.Proofs.Ytbjlbmofdnkmiaa

/-
  OWN TEXT. Contracts of the document's answer: power.
-/
namespace Go.Proofs.Ytbjlbmofdnkmiaa
open Go Go.RowKit Go.Proofs.Ytbjlbmofdnkmiaa.Kit

set_option maxHeartbeats 1000000 in
theorem power_nat (w : World) (n : Nat) (hn : n ≤ 8) :
    Calls Try.prog 39 #[.int .i64 n] w fun e w' => e = .returned (.int .i64 ((2 ^ n : Nat) : Int)) ∧ w = w' := by
  obtain ⟨P, hP⟩ : ∃ P : Nat, 2 ^ n = P := ⟨_, rfl⟩
  rw [hP]
  have HP : Hid (2 ^ n = P) := hP
  clear hP
  go_enter Try.func39, Try.ntmps39
  go_wp2
  go_loopw [0, 3] (fun nv pv wr => ∃ k q : Nat, k ≤ n ∧ q ≤ 256 ∧ nv = .int .i64 k ∧ pv = .int .i64 q ∧ Hid (q * 2 ^ k = P) ∧ w = wr) (fun nv _ _ => (intOf nv).toNat)
  case atStart => exact ⟨n, 1, Nat.le_refl _, by omega, rfl, rfl, by show _ = _; rw [Nat.one_mul]; exact HP.out, rfl⟩
  case round =>
    obtain ⟨k, q, hk, hq, rfl, rfl, hI, rfl⟩ := hrel
    cases k with
    | zero =>
      obtain rfl : q = P := by have := hI.out; simpa using this
      clear hI HP
      go_wp2
      go_ret
      exact ⟨rfl, rfl⟩
    | succ k =>
      have hI2 : Hid (2 * q * 2 ^ k = P) := by have := hI.out; show _ = _; rw [← this, Nat.pow_succ]; rw [Nat.mul_comm 2 q, Nat.mul_assoc, Nat.mul_comm 2]
      have hq3 : 2 * q ≤ 256 := by
        have h1 := hI2.out
        have h2 := HP.out
        have h3 : P ≤ 256 := by rw [← h2]; exact Nat.le_trans (Nat.pow_le_pow_right (by omega) hn) (by decide)
        have h4 := Nat.two_pow_pos k
        have h5 : 2 * q * 1 ≤ 2 * q * 2 ^ k := Nat.mul_le_mul_left _ h4
        omega
      have t1 : (0 : Int) < ((k + 1 : Nat) : Int) := by omega
      clear hI HP
      go_wp2
      go_roundw
      case rel => exact ⟨k, 2 * q, by omega, hq3, by go_num, by go_num, hI2, trivial⟩
      case measure => simp [intOf]

theorem power_any (w : World) (o : Int) (h0 : 0 ≤ o) (h : o ≤ 8) :
    Calls Try.prog 39 #[.int .i64 o] w fun e w' => e = .returned (.int .i64 (pw o)) ∧ w = w' := by
  obtain ⟨n, rfl⟩ : ∃ n : Nat, o = n := ⟨o.toNat, by omega⟩
  exact power_nat w n (by omega)

/-- The same, as a quiet region asks for it. -/
theorem power_q (o : Int) (h0 : 0 ≤ o) (h : o ≤ 8) (w : World) :
    Calls Try.prog 39 #[.int .i64 o] w fun e w' => e = .returned (.int .i64 (pw o)) ∧ w' = w :=
  (power_any w o h0 h).mono fun _ _ ⟨h1, h2⟩ => ⟨h1, h2.symm⟩

/-- The same, the power under a name. -/
theorem power_v (o v : Int) (h0 : 0 ≤ o) (h : o ≤ 8) (hv : pw o = v) (w : World) :
    Calls Try.prog 39 #[.int .i64 o] w fun e w' => e = .returned (.int .i64 v) ∧ w' = w := by
  subst hv; exact power_q o h0 h w

end Go.Proofs.Ytbjlbmofdnkmiaa

/-
  OWN TEXT. Contracts of the document's answer: ZoneNew.
-/
namespace Go.Proofs.Ytbjlbmofdnkmiaa
open Go Go.RowKit Go.Proofs.Ytbjlbmofdnkmiaa.Kit

/-- The empty zone, as cells. -/
theorem newOk_nat {f t : Int} (h : newOk f t) : ∃ F T : Nat, f = F ∧ t = T ∧ F ≤ T ∧ T ≤ 256 ∧ F % 16 = 0 ∧ T % 16 = 0 := by
  obtain ⟨h1, h2, h3, h4, h5⟩ := h
  exact ⟨f.toNat, t.toNat, by omega, by omega, by omega, by omega, by omega, by omega⟩

set_option maxRecDepth 4000 in
set_option maxHeartbeats 2000000 in
theorem zoneNew_nat (w : World) (f t : Nat) (h1 : f ≤ t) (h2 : t ≤ 256) (h3 : f % 16 = 0) (h4 : t % 16 = 0) :
    Calls Try.prog 24 #[.int .i64 f, .int .i64 t] w fun e w' => RetZone w.heap.size w' ⟨f, t, [], List.replicate ((t - f) / 8) 1⟩ e ∧ Below w.heap.size w w' := by
  have e1 : inB f 0 256 = true := inB_t (by omega)
  have e2 : inB t f 256 = true := inB_t (by omega)
  have m1 : (f : Int) % 16 = 0 := by omega
  have m2 : (t : Int) % 16 = 0 := by omega
  obtain ⟨i0, hi, hz0, hz1, hz2⟩ := info_parts info_int
  have hb2 : Below w.heap.size w ((w.alloc (.cells #[.int .i64 0, .int .i64 0, .slice none 0 0, .slice none 0 0] 44)).alloc (.cells #[.int .i64 f, .int .i64 t, .slice none 0 0, .slice none 0 0] 44)) := ((Below.refl _ _).alloc (Nat.le_refl _) _).alloc (by simp) _
  have R0 : Res4 ((w.alloc (.cells #[.int .i64 0, .int .i64 0, .slice none 0 0, .slice none 0 0] 44)).alloc (.cells #[.int .i64 f, .int .i64 t, .slice none 0 0, .slice none 0 0] 44)) w.heap.size := (zbox_new w _ _ _ _ _).res.below (below_box _ _)
  have Z0 : ZBox ((w.alloc (.cells #[.int .i64 0, .int .i64 0, .slice none 0 0, .slice none 0 0] 44)).alloc (.cells #[.int .i64 f, .int .i64 t, .slice none 0 0, .slice none 0 0] 44)) (w.heap.size + 1) (.int .i64 f) (.int .i64 t) (.slice none 0 0) (.slice none 0 0) := by
    have := zbox_new (w.alloc (.cells #[.int .i64 0, .int .i64 0, .slice none 0 0, .slice none 0 0] 44)) (.int .i64 f) (.int .i64 t) (.slice none 0 0) (.slice none 0 0) 44
    simpa using this
  obtain ⟨N, hN⟩ : ∃ N, N = (t - f) / 8 := ⟨_, rfl⟩
  have hN8 : f + 8 * N = t := by omega
  rw [← hN]
  have hs0 : w.heap.size + 2 ≤ ((w.alloc (.cells #[.int .i64 0, .int .i64 0, .slice none 0 0, .slice none 0 0] 44)).alloc (.cells #[.int .i64 f, .int .i64 t, .slice none 0 0, .slice none 0 0] 44)).heap.size := by simp
  clear hN
  obtain ⟨W0, hW0⟩ : ∃ W0, (w.alloc (.cells #[.int .i64 0, .int .i64 0, .slice none 0 0, .slice none 0 0] 44)).alloc (.cells #[.int .i64 f, .int .i64 t, .slice none 0 0, .slice none 0 0] 44) = W0 := ⟨_, rfl⟩
  rw [hW0] at hb2 R0 Z0 hs0
  have HW0 : Hid _ := hW0
  clear hW0
  go_enter Try.func24, Try.ntmps24
  go_wp2_with (go_at_call 25; refine (in_any _ _ _ _).mono ?_; rintro e w' ⟨rfl, rfl⟩)
  rw [HW0.out]
  clear e1 e2 m1 m2 HW0
  go_loopw [7] (fun pv wr => ∃ (k p c : Nat) (bo : Option Addr), p = f + 8 * k ∧ k ≤ N ∧ pv = .int .i64 p ∧ ZBox wr (w.heap.size + 1) (.int .i64 f) (.int .i64 t) (.slice none 0 0) (.slice bo k c) ∧ wr.ownsRow (w.heap.size + 2) 3 1 (.slice bo k c) k (vals (List.replicate k 1)) ∧ Res4 wr w.heap.size ∧ Below w.heap.size w wr ∧ w.heap.size + 2 ≤ wr.heap.size) (fun pv _ => f + 8 * N - (intOf pv).toNat)
  case atStart => exact ⟨0, f, 0, none, by omega, Nat.zero_le _, rfl, Z0, World.ownsRow_nil _ _ _ _, R0, hb2, hs0⟩
  case round =>
    obtain ⟨k, p, c, bo, hp, hk, rfl, Z, hown, R, hb, hs⟩ := hrel
    clear Z0 R0 hb2 hs0
    by_cases hlt : k < N
    · have hpt : (p : Int) < t := by omega
      have hml : k + 1 ≤ maxLen := by unfold maxLen; omega
      have hsz : (k + 1) * 8 ≤ 140737488355328 := by omega
      have c3 := Z.c3
      go_wp2_with (at_builtin; refine wpList_append_own _ rfl (.tmp 38) (.tmp 39) 24 rfl (w.heap.size + 2) 3 i0 (.int .i64 0) 1 8 Try.underlying24 hi hz0 hz1 hz2 rfl (by decide) _ _ _ rfl (hown.alloc _) ⟨wr.heap.size, 0, none⟩ 1 1 [.int .i64 1] rfl rfl ?c1 ?c2 hml hsz ?c5 ?_)
      case c1 => exact cell_one_new' _ _ _
      case c2 => exact ints_oneCell .i64 [_]
      case c5 => simp; omega
      intro v' w3 hown' hgrow _
      have hb3 : Below (w.heap.size + 2) wr w3 := ((Below.refl _ _).alloc hs _).grown hgrow (by simp; omega) (fun g hg => (hown.lt g hg).1)
      have e9 : vals (List.replicate k 1) ++ [Value.int .i64 1] = vals (List.replicate (k + 1) 1) := by rw [List.replicate_succ', vals_append]; rfl
      rw [e9] at hown'
      obtain ⟨bo', c', rfl⟩ := owns_shape hown'
      have Z3 := Z.belowB hb3 (by omega)
      have R3 := R.belowB hb3 (by omega)
      have hB3 := hb.trans (hb3.mono (by omega))
      have hs3 := Nat.le_trans hs hb3.size
      have Z4 := Z3.set3 (.slice bo' (k + 1) c')
      have own4 := ownsRow_setCell_below hown' (a := ⟨w.heap.size + 1, 3, none⟩) (show w.heap.size + 1 < w.heap.size + 2 by omega) (.slice bo' (k + 1) c')
      have hbt : But (w.heap.size + 1) w3 (w3.setCell ⟨w.heap.size + 1, 3, none⟩ (.slice bo' (k + 1) c')) := (But.refl _ _).setCell _
      have R4 := R3.but hbt (by omega)
      have hB4 := hB3.trans (hbt.below (B := w.heap.size) (by omega) (by omega))
      have hs4 := Nat.le_trans hs3 hbt.size
      have c3' := Z3.c3
      have z3' := Z3.z3
      clear Z R hown hb hs hgrow hb3 Z3 R3 hB3 hs3 hown' hbt e9 c3
      go_wp2
      go_roundw
      case rel => exact ⟨k + 1, f + 8 * (k + 1), c', bo', rfl, by omega, by go_num, Z4, own4, R4, hB4, hs4⟩
      case measure => simp [intOf]; omega
    · have hpt : ¬ (p : Int) < t := by omega
      obtain rfl : k = N := by omega
      have c0 := Z.c0
      have c1 := Z.c1
      have c2 := Z.c2
      have c3 := Z.c3
      obtain ⟨⟨x0, d0⟩, ⟨x1, d1⟩, ⟨x2, d2⟩, ⟨x3, d3⟩, z0, z1, z2, z3⟩ := id R
      go_wp2
      obtain ⟨k0, k1, k2, k3⟩ := res4 R (.int .i64 f) (.int .i64 t) (.slice none 0 0) (.slice bo k c)
      have hbt := but4 wr w.heap.size (.int .i64 f) (.int .i64 t) (.slice none 0 0) (.slice bo k c)
      refine bodyPost_ret (v := .tuple #[.agg #[.int .i64 f, .int .i64 t, .slice none 0 0, .slice bo k c], .int .i64 0]) (by simp [results, Try.results24, go_sem, k0, k1, k2, k3]) rfl ⟨⟨none, 0, 0, bo, k, c, rfl, ⟨Blks.nil _, hbt.nums (nums_of_owns hown (by omega)) (fun a ha => by have := owns_fresh hown a ha; omega)⟩, fresh_none _, (owns_fresh hown).mono (by omega)⟩, hb.trans (hbt.below (Nat.le_refl _) hb.size)⟩

theorem zoneNew_ok (w : World) (f t : Int) (h : newOk f t) :
    Calls Try.prog 24 #[.int .i64 f, .int .i64 t] w fun e w' => RetZone w.heap.size w' (newZ f t) e ∧ Below w.heap.size w w' := by
  obtain ⟨F, T, rfl, rfl, h1, h2, h3, h4⟩ := newOk_nat h
  have e : newZ (F : Int) T = ⟨F, T, [], List.replicate ((T - F) / 8) 1⟩ := by
    unfold newZ newTypes
    have : (((T : Int) - F) / 8).toNat = (T - F) / 8 := by omega
    rw [this]
  rw [e]
  exact zoneNew_nat w F T h1 h2 h3 h4

set_option maxRecDepth 4000 in
set_option maxHeartbeats 2000000 in
theorem zoneNew_no (w : World) (f t : Int) (h : ¬ newOk f t) :
    Calls Try.prog 24 #[.int .i64 f, .int .i64 t] w fun e w' => RetNone 1 e ∧ Below w.heap.size w w' := by
  have hb1 := below_box w (.cells #[.int .i64 0, .int .i64 0, .slice none 0 0, .slice none 0 0] 44)
  by_cases h1 : 0 ≤ f ∧ f ≤ 256
  · by_cases h2 : f ≤ t ∧ t ≤ 256
    · obtain ⟨F, rfl⟩ : ∃ F : Nat, f = F := ⟨f.toNat, by omega⟩
      obtain ⟨T, rfl⟩ : ∃ T : Nat, t = T := ⟨t.toNat, by omega⟩
      have e1 : inB (F : Int) 0 256 = true := inB_t h1
      have e2 : inB (T : Int) F 256 = true := inB_t h2
      by_cases h3 : (F : Int) % 16 = 0
      · have h4 : ¬ (T : Int) % 16 = 0 := fun g => h ⟨by omega, by omega, by omega, h3, g⟩
        clear h h1 h2
        go_enter Try.func24, Try.ntmps24
        go_wp2_with (go_at_call 25; refine (in_any _ _ _ _).mono ?_; rintro e w' ⟨rfl, rfl⟩)
        exact bodyPost_ret (v := .tuple #[.agg #[.int .i64 0, .int .i64 0, .slice none 0 0, .slice none 0 0], .int .i64 1]) (by simp [results, Try.results24, go_sem]) rfl ⟨rfl, hb1⟩
      · clear h h1 h2
        go_enter Try.func24, Try.ntmps24
        go_wp2_with (go_at_call 25; refine (in_any _ _ _ _).mono ?_; rintro e w' ⟨rfl, rfl⟩)
        exact bodyPost_ret (v := .tuple #[.agg #[.int .i64 0, .int .i64 0, .slice none 0 0, .slice none 0 0], .int .i64 1]) (by simp [results, Try.results24, go_sem]) rfl ⟨rfl, hb1⟩
    · have e1 : inB f 0 256 = true := inB_t h1
      have e2 : inB t f 256 = false := inB_f h2
      clear h h1 h2
      go_enter Try.func24, Try.ntmps24
      go_wp2_with (go_at_call 25; refine (in_any _ _ _ _).mono ?_; rintro e w' ⟨rfl, rfl⟩)
      exact bodyPost_ret (v := .tuple #[.agg #[.int .i64 0, .int .i64 0, .slice none 0 0, .slice none 0 0], .int .i64 1]) (by simp [results, Try.results24, go_sem]) rfl ⟨rfl, hb1⟩
  · have e1 : inB f 0 256 = false := inB_f h1
    clear h h1
    go_enter Try.func24, Try.ntmps24
    go_wp2_with (go_at_call 25; refine (in_any _ _ _ _).mono ?_; rintro e w' ⟨rfl, rfl⟩)
    exact bodyPost_ret (v := .tuple #[.agg #[.int .i64 0, .int .i64 0, .slice none 0 0, .slice none 0 0], .int .i64 1]) (by simp [results, Try.results24, go_sem]) rfl ⟨rfl, hb1⟩

end Go.Proofs.Ytbjlbmofdnkmiaa

/-
  OWN TEXT. Contract of the document's answer: blockMay.
-/
namespace Go.Proofs.Ytbjlbmofdnkmiaa
open Go Go.RowKit Go.Proofs.Ytbjlbmofdnkmiaa.Kit

set_option maxHeartbeats 2000000 in
theorem blockMay_any (w : World) (f t : Int) (fo to_ : Option Addr) (fn fc tn tc : Nat) (a o : Int) (h : newOk f t) :
    Calls Try.prog 61 #[.agg #[.int .i64 f, .int .i64 t, .slice fo fn fc, .slice to_ tn tc], .int .i64 a, .int .i64 o] w fun e w' => e = .returned (.bool (blkB f t a o)) ∧ Below w.heap.size w w' := by
  obtain ⟨h1, h2, h3, h4, h5⟩ := h
  have hb1 := below_box w (.cells #[.int .i64 f, .int .i64 t, .slice fo fn fc, .slice to_ tn tc] 44)
  by_cases p1 : 0 ≤ o ∧ o ≤ 4
  · have e1 : inB o 0 4 = true := inB_t p1
    by_cases p2 : f ≤ a ∧ a ≤ t - 1
    · have e2 : inB a f (t - 1) = true := inB_t p2
      obtain ⟨A, rfl⟩ : ∃ A : Nat, a = A := ⟨a.toNat, by omega⟩
      obtain ⟨P, hP, hP0⟩ : ∃ P : Nat, pw o = P ∧ 0 < P := ⟨(pw o).toNat, by have := pw_pos o; omega, by have := pw_pos o; omega⟩
      have hP1 : ((P : Int) == 0) = false := by simp; omega
      have HR : Hid (blkB f t (A : Int) o = decide ((A : Int) % P = 0)) := by show _ = _; unfold blkB; rw [e1, e2, hP]; rfl
      have hp16 : P ≤ 16 := by have := pw_le (show ordOk o from p1); omega
      have HP : Hid (pw o = P) := hP
      clear hP
      go_enter Try.func61, Try.ntmps61
      go_wp2_with (go_at_call 25; refine (in_any _ _ _ _).mono ?_; rintro e w' ⟨rfl, rfl⟩)
      go_at_call 39
      refine (power_any _ o p1.1 (by omega)).mono ?_
      rintro e w' ⟨rfl, rfl⟩
      rw [HP.out]
      by_cases d : (A : Int) % (P : Int) = 0
      · have HR2 : Hid (blkB f t (A : Int) o = true) := by show _ = _; rw [HR.out]; exact decide_eq_true d
        clear HR HP
        go_wp2
        go_ret
        exact ⟨ret_bool HR2.out.symm, hb1⟩
      · have HR2 : Hid (blkB f t (A : Int) o = false) := by show _ = _; rw [HR.out]; exact decide_eq_false d
        clear HR HP
        go_wp2
        go_ret
        exact ⟨ret_bool (by rw [HR2.out]; simpa using d), hb1⟩
    · have e2 : inB a f (t - 1) = false := inB_f p2
      have HR : Hid (blkB f t a o = false) := by show _ = _; unfold blkB; rw [e1, e2]; rfl
      go_enter Try.func61, Try.ntmps61
      go_wp2_with (go_at_call 25; refine (in_any _ _ _ _).mono ?_; rintro e w' ⟨rfl, rfl⟩)
      go_ret
      exact ⟨ret_bool HR.out.symm, hb1⟩
  · have e1 : inB o 0 4 = false := inB_f p1
    have HR : Hid (blkB f t a o = false) := by show _ = _; unfold blkB; rw [e1]; rfl
    go_enter Try.func61, Try.ntmps61
    go_wp2_with (go_at_call 25; refine (in_any _ _ _ _).mono ?_; rintro e w' ⟨rfl, rfl⟩)
    go_ret
    exact ⟨ret_bool HR.out.symm, hb1⟩

end Go.Proofs.Ytbjlbmofdnkmiaa
