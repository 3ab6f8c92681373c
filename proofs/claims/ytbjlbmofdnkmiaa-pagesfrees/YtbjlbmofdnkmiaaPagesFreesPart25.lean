/-
  OWN TEXTS, bundled: HAdj, RefHf, RefHk0.
-/
import Derived.Test.YtbjlbmofdnkmiaaPagesFreesPart13
import Derived.Test.YtbjlbmofdnkmiaaPagesFreesPart19
import Derived.Test.YtbjlbmofdnkmiaaPagesFreesPart21
import Derived.Test.YtbjlbmofdnkmiaaPagesFreesPart22
import Derived.Test.YtbjlbmofdnkmiaaPagesFreesPart23
import Derived.Test.YtbjlbmofdnkmiaaPagesFreesPart24

/-
  OWN TEXT. In a heap that may be the second zone begins where the first one ends.
-/
namespace Go.Proofs.Ytbjlbmofdnkmiaa
open Go Go.RowKit Go.Proofs.Ytbjlbmofdnkmiaa.Kit

theorem hp_adj {H : Hp} (hM : HMay H) (y : Hx) (e : y.hp = H) : Adj y := by
  subst e
  have := hM.zs
  unfold Adj
  rw [← hp_zone, ← hp_zone]
  exact this.f1

end Go.Proofs.Ytbjlbmofdnkmiaa

/-
  OWN TEXT. The document's answer: HeapFree (written by sxhf.py).
-/
namespace Go.Proofs.Ytbjlbmofdnkmiaa
open Go Go.RowKit Go.Proofs.Ytbjlbmofdnkmiaa.Kit

/-- The same heap with other blocks away, elsewhere. -/
def Kit.Hx.withVo (y : Hx) (l : List Bk) (vo : Option Addr) (n c : Nat) : Hx := { y with live := l, vo := vo, vn := n, vc := c }
theorem HZ.withVo {w : World} {B gz : Nat} {y : Hx} (h : HZ w B gz y) {l : List Bk} {vo : Option Addr} {n c : Nat} (hb : Blks w vo n l) (ha : 0 < l.length → ∀ a, vo = some a → a.block ≠ gz) : HZ w B gz (y.withVo l vo n c) :=
  ⟨h.oz, h.ez, ⟨h.at_.zones, h.at_.mins, h.at_.lists, hb⟩, ⟨h.aw.f, h.aw.t, h.aw.m, h.aw.l, h.aw.p, ha⟩, h.gB⟩
theorem away_withVo {b : Nat} {y : Hx} (h : Away b y) {l : List Bk} {vo : Option Addr} {n c : Nat} (ha : 0 < l.length → ∀ a, vo = some a → a.block ≠ b) : Away b (y.withVo l vo n c) := ⟨h.f, h.t, h.m, h.l, h.p, ha⟩
theorem live_unique {l : List Bk} (h : LvsOk l) {i : Nat} (hi : i < l.length) {a : Int} (e : (l.getD i .zero).a = a) : ∀ j, j < l.length → j ≠ i → (l.getD j .zero).a ≠ a := by
  have rise : ∀ d j, j + d + 1 < l.length → (l.getD j .zero).a < (l.getD (j + d + 1) .zero).a := by
    intro d
    induction d with
    | zero => intro j hj; have := h.ord (j + 1) (by omega) hj; rwa [show j + 1 - 1 = j by omega] at this
    | succ d ih =>
      intro j hj
      have h1 := ih j (by omega)
      have h2 := h.ord (j + d + 2) (by omega) hj
      rw [show j + d + 2 - 1 = j + d + 1 by omega] at h2
      rw [show j + (d + 1) + 1 = j + d + 2 by omega]
      omega
  intro j hj hji
  rcases Nat.lt_or_gt_of_ne hji with g | g
  · have := rise (i - j - 1) j (by omega)
    rw [show j + (i - j - 1) + 1 = i by omega] at this
    omega
  have := rise (j - i - 1) i (by omega)
  rw [show i + (j - i - 1) + 1 = j by omega] at this
  omega
/-- Blocks that stand in their order: one of them goes. -/
theorem drop_erase {l : List Bk} (h : LvsOk l) {i : Nat} (hi : i < l.length) {a o t : Int} (hb : l.getD i .zero = ⟨a, o, t⟩) : dropB l a o = l.eraseIdx i := by
  have hne := live_unique h hi (a := a) (by rw [hb])
  have hg : ∀ j (hj : j < l.length), l.getD j .zero = l[j] := fun j hj => by rw [List.getD_eq_getElem?_getD, List.getElem?_eq_getElem hj]; rfl
  rw [List.eraseIdx_eq_take_drop_succ]
  have e0 : l = l.take i ++ l.getD i .zero :: l.drop (i + 1) := cut_at l hi
  unfold dropB
  conv => lhs; rw [e0]
  rw [List.filter_append, List.filter_cons_of_neg (by rw [hb]; simp [isB]), List.filter_eq_self.2, List.filter_eq_self.2]
  · intro b hm
    obtain ⟨j, hj, rfl⟩ := List.getElem_of_mem hm
    rw [List.length_drop] at hj
    rw [List.getElem_drop]
    have := hne (i + 1 + j) (by omega) (by omega)
    rw [hg _ (by omega)] at this
    simp only [isB, Bool.not_eq_true', decide_eq_false_iff_not]
    exact fun g => this g.1
  intro b hm
  obtain ⟨j, hj, rfl⟩ := List.getElem_of_mem hm
  rw [List.length_take] at hj
  rw [List.getElem_take]
  have := hne j (by omega) (by omega)
  rw [hg _ (by omega)] at this
  simp only [isB, Bool.not_eq_true', decide_eq_false_iff_not]
  exact fun g => this g.1

theorem dropB_lenH (l : List Bk) (a o : Int) : (dropB l a o).length ≤ l.length := by unfold dropB; exact List.length_filter_le _ _
theorem canBack_live {x : Hx} (h : HMay x.hp) {i : Nat} (hi : i < x.live.length) {a o t : Int} (hb : x.live.getD i .zero = ⟨a, o, t⟩) {H : Hp} (e : H = { x.hp with live := x.hp.live.eraseIdx i }) : CanBack H a o := by
  subst e
  have hl := h.lv.ok i hi
  rw [show x.hp.live = x.live from rfl, hb] at hl
  have hg := fun p => cnt_ge (l := x.live) hi p
  rw [hb] at hg
  have hz : ZsOk { x.hp with live := x.hp.live.eraseIdx i } := ⟨h.zs.n, h.zs.m0, h.zs.m1, h.zs.f0, h.zs.f1, h.zs.t1⟩
  exact (backH_ok hz (a := a) (o := o) hl.o hl.m hl.a.1 hl.a.2 (fun p => by
    have h1 := h.cntLe p
    have h2 : hit a o p ≤ Kit.cnt x.live p := hg p
    have h3 : zcnt { x.hp with live := x.hp.live.eraseIdx i } p = zcnt x.hp p := rfl
    rw [h3]
    have h4 : Kit.cnt x.hp.live p = Kit.cnt x.live p := rfl
    omega)).1
set_option maxRecDepth 10000 in
set_option maxHeartbeats 4000000 in
theorem heapFree_no8 (w : World) (x : Hx) (cpu p : Int) (hx : x.At w) (hM : ¬ HMay x.hp) :
    Calls Try.prog 16 #[.agg #[.slice x.zo x.zn x.zc, .slice x.mo x.mn x.mc, .int .i64 x.cpus, .slice x.lo x.ln x.lc, .slice x.vo x.vn x.vc], .int .i64 cpu, .int .i64 p] w fun e w' => e = .returned (.tuple #[.agg #[.slice none 0 0, .slice none 0 0, .int .i64 0, .slice none 0 0, .slice none 0 0], .int .i64 8]) ∧ Below w.heap.size w w' := by
  have HC : ∀ W, x.At W → Calls Try.prog 12 #[.agg #[.slice x.zo x.zn x.zc, .slice x.mo x.mn x.mc, .int .i64 x.cpus, .slice x.lo x.ln x.lc, .slice x.vo x.vn x.vc]] W fun e w' => e = .returned (.bool false) ∧ Below W.heap.size W w' := fun W hW => (heapMay_any W x hW).mono fun e w1 h1 => by
    obtain ⟨⟨r, rfl, hc⟩, hb⟩ := h1
    cases r with
    | false => exact ⟨rfl, hb⟩
    | true => exact absurd (hc.mp rfl) hM
  have B0 := Below.refl w.heap.size w
  refine sx_enter (args := [_, _, _]) 117 Try.func16 rfl rfl rfl ?_
  intro A f
  refine wp_seq ?_
  refine sx_list ?_
  refine l_box f rfl rfl rfl rfl rfl ?_; clear f A; intro b1 W2 eb1 hb3 rb1 A f; dsimp only [Value.cells] at rb1
  have z_B0_b1 := B0.size; rw [eb1] at z_B0_b1
  replace B0 := Below.next B0 hb3
  refine l_alloc (z := .agg #[.slice none 0 0, .slice none 0 0, .int .i64 0, .slice none 0 0, .slice none 0 0]) f rfl rfl rfl rfl (by kernel_rfl) ?_; clear f A; intro b4 W5 eb4 hb6 rb4 A f; dsimp only [Value.cells] at rb4
  have o_b1_b4 : b1 < b4 := by have := row_lt rb1; omega
  have z_B0_b4 := B0.size; rw [eb4] at z_B0_b4
  replace B0 := Below.next B0 hb6; replace rb1 := row_next rb1 hb6
  refine l_do f rfl rfl rfl (y_assign rfl rfl) ?_; clear f A; intro A f
  refine wpList_nil ?_
  refine x_tn ?_
  refine wp_seq ?_
  refine wp_seq ?_
  refine sx_list ?_
  refine l_do f rfl rfl rfl (y_loadN (vs := [_, _, _, _, _]) rfl rfl (ag rfl) rfl (rowls (rowq rb1) _ _ ⟨rfl, rfl, rfl, rfl, rfl, trivial⟩)) ?_; clear f A; intro A f
  refine l_call f rfl rfl rfl (IsCall.mk' (cap := []) rfl rfl rfl) (pl rfl) (HC _ (hx.below B0)) ?_
  clear f A
  rintro _ W7 ⟨rfl, hb8⟩
  refine ⟨_, rfl, ?_⟩
  intro A f
  replace B0 := Below.next B0 hb8; replace rb1 := row_next rb1 hb8; replace rb4 := row_next rb4 hb8
  refine l_do f rfl rfl rfl (y_not rfl rfl) ?_; clear f A; intro A f
  refine wpList_nil ?_
  refine x_tn ?_
  refine x_condT f rfl ?_
  refine wp_seq ?_
  refine sx_list ?_
  refine l_do f rfl rfl rfl (y_build #[.slice none 0 0, .slice none 0 0, .int .i64 0, .slice none 0 0, .slice none 0 0] rfl rfl (by kernel_rfl)) ?_; clear f A; intro A f
  refine l_store f rfl rfl rfl rfl rfl rb4 (sz rfl) rfl (Nat.le_of_ble_eq_true rfl) rfl ?_
  clear rb4; intro W9 hb10 rb4; dsimp only [setL, over, Value.cells] at rb4; replace B0 := Below.thenBut B0 hb10 (by omega); replace rb1 := But.row hb10 rb1 (by omega)
  refine l_do f rfl rfl rfl (y_assign rfl rfl) ?_; clear f A; intro A f
  refine wpList_nil ?_
  refine x_tn ?_
  refine wp_ret ?_
  refine x_tr ?_
  refine x_retc1 f rfl rfl rfl (ag rfl) rb4 rfl ?_
  -- return 0: 
  exact ⟨rfl, B0⟩

set_option maxRecDepth 10000 in
set_option maxHeartbeats 4000000 in
theorem heapFree_no1 (w : World) (x : Hx) (cpu p : Int) (hx : x.At w) (hM : HMay x.hp) (hc : ¬ (0 ≤ cpu ∧ cpu ≤ x.cpus - 1)) :
    Calls Try.prog 16 #[.agg #[.slice x.zo x.zn x.zc, .slice x.mo x.mn x.mc, .int .i64 x.cpus, .slice x.lo x.ln x.lc, .slice x.vo x.vn x.vc], .int .i64 cpu, .int .i64 p] w fun e w' => e = .returned (.tuple #[.agg #[.slice none 0 0, .slice none 0 0, .int .i64 0, .slice none 0 0, .slice none 0 0], .int .i64 1]) ∧ Below w.heap.size w w' := by
  have HC : ∀ W, x.At W → Calls Try.prog 12 #[.agg #[.slice x.zo x.zn x.zc, .slice x.mo x.mn x.mc, .int .i64 x.cpus, .slice x.lo x.ln x.lc, .slice x.vo x.vn x.vc]] W fun e w' => e = .returned (.bool true) ∧ Below W.heap.size W w' := fun W hW => (heapMay_any W x hW).mono fun e w1 h1 => by
    obtain ⟨⟨r, rfl, hc⟩, hb⟩ := h1
    cases r with
    | false => exact absurd (hc.mpr hM) (by simp)
    | true => exact ⟨rfl, hb⟩
  have hcp : 1 ≤ x.cpus ∧ x.cpus ≤ 4 := hM.cpus
  have B0 := Below.refl w.heap.size w
  refine sx_enter (args := [_, _, _]) 117 Try.func16 rfl rfl rfl ?_
  intro A f
  refine wp_seq ?_
  refine sx_list ?_
  refine l_box f rfl rfl rfl rfl rfl ?_; clear f A; intro b1 W2 eb1 hb3 rb1 A f; dsimp only [Value.cells] at rb1
  have z_B0_b1 := B0.size; rw [eb1] at z_B0_b1
  replace B0 := Below.next B0 hb3
  refine l_alloc (z := .agg #[.slice none 0 0, .slice none 0 0, .int .i64 0, .slice none 0 0, .slice none 0 0]) f rfl rfl rfl rfl (by kernel_rfl) ?_; clear f A; intro b4 W5 eb4 hb6 rb4 A f; dsimp only [Value.cells] at rb4
  have o_b1_b4 : b1 < b4 := by have := row_lt rb1; omega
  have z_B0_b4 := B0.size; rw [eb4] at z_B0_b4
  replace B0 := Below.next B0 hb6; replace rb1 := row_next rb1 hb6
  refine l_do f rfl rfl rfl (y_assign rfl rfl) ?_; clear f A; intro A f
  refine wpList_nil ?_
  refine x_tn ?_
  refine wp_seq ?_
  refine wp_seq ?_
  refine sx_list ?_
  refine l_do f rfl rfl rfl (y_loadN (vs := [_, _, _, _, _]) rfl rfl (ag rfl) rfl (rowls (rowq rb1) _ _ ⟨rfl, rfl, rfl, rfl, rfl, trivial⟩)) ?_; clear f A; intro A f
  refine l_call f rfl rfl rfl (IsCall.mk' (cap := []) rfl rfl rfl) (pl rfl) (HC _ (hx.below B0)) ?_
  clear f A
  rintro _ W7 ⟨rfl, hb8⟩
  refine ⟨_, rfl, ?_⟩
  intro A f
  replace B0 := Below.next B0 hb8; replace rb1 := row_next rb1 hb8; replace rb4 := row_next rb4 hb8
  refine l_do f rfl rfl rfl (y_not rfl rfl) ?_; clear f A; intro A f
  refine wpList_nil ?_
  refine x_tn ?_
  refine x_condF f rfl ?_
  refine wp_skip ?_
  refine x_tn ?_
  refine wp_seq ?_
  refine wp_seq ?_
  refine sx_list ?_
  refine l_do f rfl rfl rfl (y_move rfl rfl) ?_; clear f A; intro A f
  refine l_do f rfl rfl rfl (y_field rfl rfl (fo rfl)) ?_; clear f A; intro A f
  refine l_do f rfl rfl rfl (y_load1 rfl rfl (ag rfl) (rowl (rowq rb1) rfl)) ?_; clear f A; intro A f
  refine l_do f rfl rfl rfl (y_sub rfl rfl rfl rfl (by omega)) ?_; clear f A; intro A f
  refine l_callif _ f rfl rfl rfl (IsCall.mk' (cap := []) rfl rfl rfl) (pl rfl) (in_c _ _ _ _) ?_ ?_
  · intro c9; exfalso; omega
  clear f A; intro c9 W11 hb10 A f
  replace B0 := Below.next B0 hb10; replace rb1 := row_next rb1 hb10; replace rb4 := row_next rb4 hb10
  refine l_do f rfl rfl rfl (y_not rfl rfl) ?_; clear f A; intro A f
  refine wpList_nil ?_
  refine x_tn ?_
  refine x_condT f rfl ?_
  refine wp_seq ?_
  refine sx_list ?_
  refine l_do f rfl rfl rfl (y_build #[.slice none 0 0, .slice none 0 0, .int .i64 0, .slice none 0 0, .slice none 0 0] rfl rfl (by kernel_rfl)) ?_; clear f A; intro A f
  refine l_store f rfl rfl rfl rfl rfl rb4 (sz rfl) rfl (Nat.le_of_ble_eq_true rfl) rfl ?_
  clear rb4; intro W12 hb13 rb4; dsimp only [setL, over, Value.cells] at rb4; replace B0 := Below.thenBut B0 hb13 (by omega); replace rb1 := But.row hb13 rb1 (by omega)
  refine l_do f rfl rfl rfl (y_assign rfl rfl) ?_; clear f A; intro A f
  refine wpList_nil ?_
  refine x_tn ?_
  refine wp_ret ?_
  refine x_tr ?_
  refine x_retc1 f rfl rfl rfl (ag rfl) rb4 rfl ?_
  -- return 0: ¬c9@23
  exact ⟨rfl, B0⟩

set_option maxRecDepth 10000 in
set_option maxHeartbeats 4000000 in
theorem heapFree_no4 (w : World) (x : Hx) (cpu p : Int) (hx : x.At w) (hM : HMay x.hp) (hc : 0 ≤ cpu ∧ cpu ≤ x.cpus - 1) (hno : ∀ k, k < x.live.length → (x.live.getD k .zero).a ≠ p) :
    Calls Try.prog 16 #[.agg #[.slice x.zo x.zn x.zc, .slice x.mo x.mn x.mc, .int .i64 x.cpus, .slice x.lo x.ln x.lc, .slice x.vo x.vn x.vc], .int .i64 cpu, .int .i64 p] w fun e w' => e = .returned (.tuple #[.agg #[.slice none 0 0, .slice none 0 0, .int .i64 0, .slice none 0 0, .slice none 0 0], .int .i64 4]) ∧ Below w.heap.size w w' := by
  have HC : ∀ W, x.At W → Calls Try.prog 12 #[.agg #[.slice x.zo x.zn x.zc, .slice x.mo x.mn x.mc, .int .i64 x.cpus, .slice x.lo x.ln x.lc, .slice x.vo x.vn x.vc]] W fun e w' => e = .returned (.bool true) ∧ Below W.heap.size W w' := fun W hW => (heapMay_any W x hW).mono fun e w1 h1 => by
    obtain ⟨⟨r, rfl, hc⟩, hb⟩ := h1
    cases r with
    | false => exact absurd (hc.mpr hM) (by simp)
    | true => exact ⟨rfl, hb⟩
  have hcp : 1 ≤ x.cpus ∧ x.cpus ≤ 4 := hM.cpus
  have hvl := hx.live.len
  have hvr := hx.live.reach
  have B0 := Below.refl w.heap.size w
  refine sx_enter (args := [_, _, _]) 117 Try.func16 rfl rfl rfl ?_
  intro A f
  refine wp_seq ?_
  refine sx_list ?_
  refine l_box f rfl rfl rfl rfl rfl ?_; clear f A; intro b1 W2 eb1 hb3 rb1 A f; dsimp only [Value.cells] at rb1
  have z_B0_b1 := B0.size; rw [eb1] at z_B0_b1
  replace B0 := Below.next B0 hb3
  refine l_alloc (z := .agg #[.slice none 0 0, .slice none 0 0, .int .i64 0, .slice none 0 0, .slice none 0 0]) f rfl rfl rfl rfl (by kernel_rfl) ?_; clear f A; intro b4 W5 eb4 hb6 rb4 A f; dsimp only [Value.cells] at rb4
  have o_b1_b4 : b1 < b4 := by have := row_lt rb1; omega
  have z_B0_b4 := B0.size; rw [eb4] at z_B0_b4
  replace B0 := Below.next B0 hb6; replace rb1 := row_next rb1 hb6
  refine l_do f rfl rfl rfl (y_assign rfl rfl) ?_; clear f A; intro A f
  refine wpList_nil ?_
  refine x_tn ?_
  refine wp_seq ?_
  refine wp_seq ?_
  refine sx_list ?_
  refine l_do f rfl rfl rfl (y_loadN (vs := [_, _, _, _, _]) rfl rfl (ag rfl) rfl (rowls (rowq rb1) _ _ ⟨rfl, rfl, rfl, rfl, rfl, trivial⟩)) ?_; clear f A; intro A f
  refine l_call f rfl rfl rfl (IsCall.mk' (cap := []) rfl rfl rfl) (pl rfl) (HC _ (hx.below B0)) ?_
  clear f A
  rintro _ W7 ⟨rfl, hb8⟩
  refine ⟨_, rfl, ?_⟩
  intro A f
  replace B0 := Below.next B0 hb8; replace rb1 := row_next rb1 hb8; replace rb4 := row_next rb4 hb8
  refine l_do f rfl rfl rfl (y_not rfl rfl) ?_; clear f A; intro A f
  refine wpList_nil ?_
  refine x_tn ?_
  refine x_condF f rfl ?_
  refine wp_skip ?_
  refine x_tn ?_
  refine wp_seq ?_
  refine wp_seq ?_
  refine sx_list ?_
  refine l_do f rfl rfl rfl (y_move rfl rfl) ?_; clear f A; intro A f
  refine l_do f rfl rfl rfl (y_field rfl rfl (fo rfl)) ?_; clear f A; intro A f
  refine l_do f rfl rfl rfl (y_load1 rfl rfl (ag rfl) (rowl (rowq rb1) rfl)) ?_; clear f A; intro A f
  refine l_do f rfl rfl rfl (y_sub rfl rfl rfl rfl (by omega)) ?_; clear f A; intro A f
  refine l_callif _ f rfl rfl rfl (IsCall.mk' (cap := []) rfl rfl rfl) (pl rfl) (in_c _ _ _ _) ?_ ?_
  · clear f A; intro c9 W11 hb10 A f
    replace B0 := Below.next B0 hb10; replace rb1 := row_next rb1 hb10; replace rb4 := row_next rb4 hb10
    refine l_do f rfl rfl rfl (y_not rfl rfl) ?_; clear f A; intro A f
    refine wpList_nil ?_
    refine x_tn ?_
    refine x_condF f rfl ?_
    refine wp_skip ?_
    refine x_tn ?_
    refine wp_seq ?_
    refine sx_list ?_
    skip
    refine l_do f rfl rfl rfl (y_assign rfl rfl) ?_; clear f A; intro A f
    refine wpList_nil ?_
    refine x_tn ?_
    refine wp_seq ?_
    refine wp_seq ?_
    refine sx_list ?_
    refine l_do f rfl rfl rfl (y_assign rfl rfl) ?_; clear f A; intro A f
    refine wpList_nil ?_
    refine x_tn ?_
    refine wp_block ?_
    refine x_loop (fun n A W => ∃ (k : Nat) (od : Int), n = x.vn - k ∧ k ≤ x.vn ∧ od = -1 ∧ Fr A 117 [(1, .int .i64 cpu), (2, .int .i64 p), (3, .pointer (some ⟨b1, 0, none⟩)), (6, .pointer (some ⟨b4, 0, none⟩)), (8, .int .i64 od), (9, .int .i64 (k : Nat))] ∧ Below w.heap.size w W ∧ W.heap[b1]? = some (.cells #[.slice x.zo x.zn x.zc, .slice x.mo x.mn x.mc, .int .i64 x.cpus, .slice x.lo x.ln x.lc, .slice x.vo x.vn x.vc] 28 (0, 0)) ∧ W.heap[b4]? = some (.cells #[.slice none 0 0, .slice none 0 0, .int .i64 0, .slice none 0 0, .slice none 0 0] 28 (0, 0))) (n0 := x.vn) (⟨0, -1, rfl, Nat.zero_le _, by simp, f.sub ⟨rfl, rfl, rfl, rfl, rfl, rfl, trivial⟩, B0, rb1, rb4⟩) ?_
    clear f A
    clear B0 rb1 rb4
    rintro n A W12 ⟨k, od, hn, hk, hod, f, B0, rb1, rb4⟩
    refine wp_seq ?_
    refine wp_seq ?_
    refine sx_list ?_
    refine l_do f rfl rfl rfl (y_move rfl rfl) ?_; clear f A; intro A f
    refine l_do f rfl rfl rfl (y_field rfl rfl (fo rfl)) ?_; clear f A; intro A f
    refine l_do f rfl rfl rfl (y_load1 rfl rfl (ag rfl) (rowl (rowq rb1) rfl)) ?_; clear f A; intro A f
    refine l_do f rfl rfl rfl (y_len rfl rfl (sl rfl)) ?_; clear f A; intro A f
    refine l_if _ f rfl rfl rfl (y_lss rfl rfl rfl) ?_ ?_
    · clear f A; intro c13 A f
      refine wpList_nil ?_
      refine x_tn ?_
      refine x_condT f rfl ?_
      refine wp_skip ?_
      refine x_tn ?_
      refine wp_seq ?_
      refine wp_block ?_
      refine wp_seq ?_
      refine sx_list ?_
      refine l_do f rfl rfl rfl (y_field rfl rfl (fo rfl)) ?_; clear f A; intro A f
      refine l_do f rfl rfl rfl (y_load1 rfl rfl (ag rfl) (rowl (rowq rb1) rfl)) ?_; clear f A; intro A f
      refine l_do f rfl rfl rfl (y_move rfl rfl) ?_; clear f A; intro A f
      obtain ⟨gk, ok, bak, bok, btk, hak, c0k, c1k, c2k, hXk⟩ := hx.live.at_.at (k) (by have := hx.live.len; omega)
      replace c0k := St.of c0k; replace c1k := St.of c1k; replace c2k := St.of c2k
      have hnk : bak ≠ p := by have := hno k (by omega); rw [hXk.out] at this; exact this
      refine l_do f rfl rfl rfl (y_index rfl rfl (by first | rfl | assumption) rfl (es rfl) (by omega)) ?_; clear f A; intro A f
      refine l_do f rfl rfl rfl (y_field rfl rfl (fo rfl)) ?_; clear f A; intro A f
      refine l_do f rfl rfl rfl (y_load1 rfl rfl (ag rfl) (by first | assumption | exact St.q c0k B0 | exact St.q c1k B0 | exact St.q c2k B0)) ?_; clear f A; intro A f
      refine l_do f rfl rfl rfl (y_move rfl rfl) ?_; clear f A; intro A f
      refine l_if _ f rfl rfl rfl (y_eql rfl rfl rfl) ?_ ?_
      · intro c14; exfalso; omega
      clear f A; intro c14 A f
      refine wpList_nil ?_
      refine x_tn ?_
      refine x_condF f rfl ?_
      refine wp_skip ?_
      refine x_bn ?_
      refine x_tn ?_
      refine sx_list ?_
      refine l_do f rfl rfl rfl (y_move rfl rfl) ?_; clear f A; intro A f
      refine l_do f rfl rfl rfl (y_add rfl rfl rfl rfl (by omega)) ?_; clear f A; intro A f
      refine l_do f rfl rfl rfl (y_assign rfl rfl) ?_; clear f A; intro A f
      refine wpList_nil ?_
      refine x_tn ?_
      exact ⟨x.vn - (k + 1), by omega, k + 1, _, rfl, by omega, hod, f.sub ⟨rfl, rfl, rfl, rfl, rfl, rfl, trivial⟩, B0, rb1, rb4⟩
    clear f A; intro c13 A f
    refine wpList_nil ?_
    refine x_tn ?_
    refine x_condF f rfl ?_
    refine wp_exit ?_
    refine x_te ?_
    refine x_te ?_
    refine x_bh ?_
    refine x_tn ?_
    refine wp_seq ?_
    refine wp_seq ?_
    refine sx_list ?_
    refine l_do f rfl rfl rfl (y_move rfl rfl) ?_; clear f A; intro A f
    refine l_if _ f rfl rfl rfl (y_lss rfl rfl rfl) ?_ ?_
    · clear f A; intro c15 A f
      refine wpList_nil ?_
      refine x_tn ?_
      refine x_condT f rfl ?_
      refine wp_seq ?_
      refine sx_list ?_
      refine l_do f rfl rfl rfl (y_build #[.slice none 0 0, .slice none 0 0, .int .i64 0, .slice none 0 0, .slice none 0 0] rfl rfl (by kernel_rfl)) ?_; clear f A; intro A f
      refine l_store f rfl rfl rfl rfl rfl rb4 (sz rfl) rfl (Nat.le_of_ble_eq_true rfl) rfl ?_
      clear rb4; intro W16 hb17 rb4; dsimp only [setL, over, Value.cells] at rb4; replace B0 := Below.thenBut B0 hb17 (by omega); replace rb1 := But.row hb17 rb1 (by omega)
      refine l_do f rfl rfl rfl (y_assign rfl rfl) ?_; clear f A; intro A f
      refine wpList_nil ?_
      refine x_tn ?_
      refine wp_ret ?_
      refine x_tr ?_
      refine x_retc1 f rfl rfl rfl (ag rfl) rb4 rfl ?_
      -- return 0: c9@23 ¬c13@30 c15@48
      exact ⟨rfl, B0⟩
    intro c15; exfalso; omega
  intro c9; exfalso; omega

set_option maxRecDepth 10000 in
set_option maxHeartbeats 4000000 in
theorem heapFree_okb (w : World) (x : Hx) (cpu p : Int) (i : Nat) (hx : x.At w) (hM : HMay x.hp) (hc : 0 ≤ cpu ∧ cpu ≤ x.cpus - 1) (hi : i < x.live.length) (hia : (x.live.getD i .zero).a = p) (ho : 0 < (x.live.getD i .zero).o) :
    Calls Try.prog 16 #[.agg #[.slice x.zo x.zn x.zc, .slice x.mo x.mn x.mc, .int .i64 x.cpus, .slice x.lo x.ln x.lc, .slice x.vo x.vn x.vc], .int .i64 cpu, .int .i64 p] w fun e w' => (∃ y2 : Hx, e = .returned (.tuple #[.agg #[.slice y2.zo y2.zn y2.zc, .slice y2.mo y2.mn y2.mc, .int .i64 y2.cpus, .slice y2.lo y2.ln y2.lc, .slice y2.vo y2.vn y2.vc], .int .i64 0]) ∧ y2.At w' ∧ y2.hp = releaseH { x.hp with live := x.hp.live.eraseIdx i } cpu (x.live.getD i .zero)) ∧ Below w.heap.size w w' := by
  have HC : ∀ W, x.At W → Calls Try.prog 12 #[.agg #[.slice x.zo x.zn x.zc, .slice x.mo x.mn x.mc, .int .i64 x.cpus, .slice x.lo x.ln x.lc, .slice x.vo x.vn x.vc]] W fun e w' => e = .returned (.bool true) ∧ Below W.heap.size W w' := fun W hW => (heapMay_any W x hW).mono fun e w1 h1 => by
    obtain ⟨⟨r, rfl, hc⟩, hb⟩ := h1
    cases r with
    | false => exact absurd (hc.mpr hM) (by simp)
    | true => exact ⟨rfl, hb⟩
  have hcp : 1 ≤ x.cpus ∧ x.cpus ≤ 4 := hM.cpus
  have hvl := hx.live.len
  have hvr := hx.live.reach
  obtain ⟨ob, tb, hbi⟩ : ∃ ob tb, x.live.getD i .zero = ⟨p, ob, tb⟩ := ⟨(x.live.getD i .zero).o, (x.live.getD i .zero).t, by rw [← hia]⟩
  have hbl := hM.lv.ok i hi
  rw [show x.hp.live = x.live from rfl, hbi] at hbl
  have hbo0 := hbl.o.1
  dsimp only at hbo0
  have hne : ∀ j, j < x.live.length → j ≠ i → (x.live.getD j .zero).a ≠ p := live_unique hM.lv hi hia
  rw [hbi] at ho
  dsimp only at ho
  have B0 := Below.refl w.heap.size w
  refine sx_enter (args := [_, _, _]) 117 Try.func16 rfl rfl rfl ?_
  intro A f
  refine wp_seq ?_
  refine sx_list ?_
  refine l_box f rfl rfl rfl rfl rfl ?_; clear f A; intro b1 W2 eb1 hb3 rb1 A f; dsimp only [Value.cells] at rb1
  have z_B0_b1 := B0.size; rw [eb1] at z_B0_b1
  replace B0 := Below.next B0 hb3
  refine l_alloc (z := .agg #[.slice none 0 0, .slice none 0 0, .int .i64 0, .slice none 0 0, .slice none 0 0]) f rfl rfl rfl rfl (by kernel_rfl) ?_; clear f A; intro b4 W5 eb4 hb6 rb4 A f; dsimp only [Value.cells] at rb4
  have o_b1_b4 : b1 < b4 := by have := row_lt rb1; omega
  have z_B0_b4 := B0.size; rw [eb4] at z_B0_b4
  replace B0 := Below.next B0 hb6; replace rb1 := row_next rb1 hb6
  refine l_do f rfl rfl rfl (y_assign rfl rfl) ?_; clear f A; intro A f
  refine wpList_nil ?_
  refine x_tn ?_
  refine wp_seq ?_
  refine wp_seq ?_
  refine sx_list ?_
  refine l_do f rfl rfl rfl (y_loadN (vs := [_, _, _, _, _]) rfl rfl (ag rfl) rfl (rowls (rowq rb1) _ _ ⟨rfl, rfl, rfl, rfl, rfl, trivial⟩)) ?_; clear f A; intro A f
  refine l_call f rfl rfl rfl (IsCall.mk' (cap := []) rfl rfl rfl) (pl rfl) (HC _ (hx.below B0)) ?_
  clear f A
  rintro _ W7 ⟨rfl, hb8⟩
  refine ⟨_, rfl, ?_⟩
  intro A f
  replace B0 := Below.next B0 hb8; replace rb1 := row_next rb1 hb8; replace rb4 := row_next rb4 hb8
  refine l_do f rfl rfl rfl (y_not rfl rfl) ?_; clear f A; intro A f
  refine wpList_nil ?_
  refine x_tn ?_
  refine x_condF f rfl ?_
  refine wp_skip ?_
  refine x_tn ?_
  refine wp_seq ?_
  refine wp_seq ?_
  refine sx_list ?_
  refine l_do f rfl rfl rfl (y_move rfl rfl) ?_; clear f A; intro A f
  refine l_do f rfl rfl rfl (y_field rfl rfl (fo rfl)) ?_; clear f A; intro A f
  refine l_do f rfl rfl rfl (y_load1 rfl rfl (ag rfl) (rowl (rowq rb1) rfl)) ?_; clear f A; intro A f
  refine l_do f rfl rfl rfl (y_sub rfl rfl rfl rfl (by omega)) ?_; clear f A; intro A f
  refine l_callif _ f rfl rfl rfl (IsCall.mk' (cap := []) rfl rfl rfl) (pl rfl) (in_c _ _ _ _) ?_ ?_
  · clear f A; intro c9 W11 hb10 A f
    replace B0 := Below.next B0 hb10; replace rb1 := row_next rb1 hb10; replace rb4 := row_next rb4 hb10
    refine l_do f rfl rfl rfl (y_not rfl rfl) ?_; clear f A; intro A f
    refine wpList_nil ?_
    refine x_tn ?_
    refine x_condF f rfl ?_
    refine wp_skip ?_
    refine x_tn ?_
    refine wp_seq ?_
    refine sx_list ?_
    skip
    refine l_do f rfl rfl rfl (y_assign rfl rfl) ?_; clear f A; intro A f
    refine wpList_nil ?_
    refine x_tn ?_
    refine wp_seq ?_
    refine wp_seq ?_
    refine sx_list ?_
    refine l_do f rfl rfl rfl (y_assign rfl rfl) ?_; clear f A; intro A f
    refine wpList_nil ?_
    refine x_tn ?_
    refine wp_block ?_
    refine x_loop (fun n A W => ∃ (k : Nat) (od : Int), n = x.vn - k ∧ k ≤ x.vn ∧ od = (if i < k then ob else -1) ∧ Fr A 117 [(1, .int .i64 cpu), (2, .int .i64 p), (3, .pointer (some ⟨b1, 0, none⟩)), (6, .pointer (some ⟨b4, 0, none⟩)), (8, .int .i64 od), (9, .int .i64 (k : Nat))] ∧ Below w.heap.size w W ∧ W.heap[b1]? = some (.cells #[.slice x.zo x.zn x.zc, .slice x.mo x.mn x.mc, .int .i64 x.cpus, .slice x.lo x.ln x.lc, .slice x.vo x.vn x.vc] 28 (0, 0)) ∧ W.heap[b4]? = some (.cells #[.slice none 0 0, .slice none 0 0, .int .i64 0, .slice none 0 0, .slice none 0 0] 28 (0, 0))) (n0 := x.vn) (⟨0, -1, rfl, Nat.zero_le _, by simp, f.sub ⟨rfl, rfl, rfl, rfl, rfl, rfl, trivial⟩, B0, rb1, rb4⟩) ?_
    clear f A
    clear B0 rb1 rb4
    rintro n A W12 ⟨k, od, hn, hk, hod, f, B0, rb1, rb4⟩
    refine wp_seq ?_
    refine wp_seq ?_
    refine sx_list ?_
    refine l_do f rfl rfl rfl (y_move rfl rfl) ?_; clear f A; intro A f
    refine l_do f rfl rfl rfl (y_field rfl rfl (fo rfl)) ?_; clear f A; intro A f
    refine l_do f rfl rfl rfl (y_load1 rfl rfl (ag rfl) (rowl (rowq rb1) rfl)) ?_; clear f A; intro A f
    refine l_do f rfl rfl rfl (y_len rfl rfl (sl rfl)) ?_; clear f A; intro A f
    refine l_if _ f rfl rfl rfl (y_lss rfl rfl rfl) ?_ ?_
    · clear f A; intro c13 A f
      refine wpList_nil ?_
      refine x_tn ?_
      refine x_condT f rfl ?_
      refine wp_skip ?_
      refine x_tn ?_
      refine wp_seq ?_
      refine wp_block ?_
      refine wp_seq ?_
      refine sx_list ?_
      refine l_do f rfl rfl rfl (y_field rfl rfl (fo rfl)) ?_; clear f A; intro A f
      refine l_do f rfl rfl rfl (y_load1 rfl rfl (ag rfl) (rowl (rowq rb1) rfl)) ?_; clear f A; intro A f
      refine l_do f rfl rfl rfl (y_move rfl rfl) ?_; clear f A; intro A f
      obtain ⟨gk, ok, bak, bok, btk, hak, c0k, c1k, c2k, hXk⟩ := hx.live.at_.at (k) (by have := hx.live.len; omega)
      replace c0k := St.of c0k; replace c1k := St.of c1k; replace c2k := St.of c2k
      refine l_do f rfl rfl rfl (y_index rfl rfl (by first | rfl | assumption) rfl (es rfl) (by omega)) ?_; clear f A; intro A f
      refine l_do f rfl rfl rfl (y_field rfl rfl (fo rfl)) ?_; clear f A; intro A f
      refine l_do f rfl rfl rfl (y_load1 rfl rfl (ag rfl) (by first | assumption | exact St.q c0k B0 | exact St.q c1k B0 | exact St.q c2k B0)) ?_; clear f A; intro A f
      refine l_do f rfl rfl rfl (y_move rfl rfl) ?_; clear f A; intro A f
      refine l_if _ f rfl rfl rfl (y_eql rfl rfl rfl) ?_ ?_
      · clear f A; intro c14 A f
        refine wpList_nil ?_
        refine x_tn ?_
        refine x_condT f rfl ?_
        refine sx_list ?_
        refine l_do f rfl rfl rfl (y_field rfl rfl (fo rfl)) ?_; clear f A; intro A f
        refine l_do f rfl rfl rfl (y_load1 rfl rfl (ag rfl) (rowl (rowq rb1) rfl)) ?_; clear f A; intro A f
        refine l_do f rfl rfl rfl (y_move rfl rfl) ?_; clear f A; intro A f
        refine l_do f rfl rfl rfl (y_index rfl rfl (by first | rfl | assumption) rfl (es rfl) (by omega)) ?_; clear f A; intro A f
        refine l_do f rfl rfl rfl (y_field rfl rfl (fo rfl)) ?_; clear f A; intro A f
        refine l_do f rfl rfl rfl (y_load1 rfl rfl (ag rfl) (by first | assumption | exact St.q c0k B0 | exact St.q c1k B0 | exact St.q c2k B0)) ?_; clear f A; intro A f
        skip
        refine l_do f rfl rfl rfl (y_assign rfl rfl) ?_; clear f A; intro A f
        refine wpList_nil ?_
        refine x_bn ?_
        refine x_tn ?_
        refine sx_list ?_
        refine l_do f rfl rfl rfl (y_move rfl rfl) ?_; clear f A; intro A f
        refine l_do f rfl rfl rfl (y_add rfl rfl rfl rfl (by omega)) ?_; clear f A; intro A f
        refine l_do f rfl rfl rfl (y_assign rfl rfl) ?_; clear f A; intro A f
        refine wpList_nil ?_
        refine x_tn ?_
        exact ⟨x.vn - (k + 1), by omega, k + 1, _, rfl, by omega, (by have ek : k = i := (by by_cases e : k = i; (exact e); exact absurd c14 (by have := hne k (by omega) e; rw [hXk.out] at this; exact this)); rw [if_pos (by omega)]; have := hXk.out; rw [ek, hbi] at this; injection this with q1 q2 q3; exact q2.symm), f.sub ⟨rfl, rfl, rfl, rfl, rfl, rfl, trivial⟩, B0, rb1, rb4⟩
      clear f A; intro c14 A f
      refine wpList_nil ?_
      refine x_tn ?_
      refine x_condF f rfl ?_
      refine wp_skip ?_
      refine x_bn ?_
      refine x_tn ?_
      refine sx_list ?_
      refine l_do f rfl rfl rfl (y_move rfl rfl) ?_; clear f A; intro A f
      refine l_do f rfl rfl rfl (y_add rfl rfl rfl rfl (by omega)) ?_; clear f A; intro A f
      refine l_do f rfl rfl rfl (y_assign rfl rfl) ?_; clear f A; intro A f
      refine wpList_nil ?_
      refine x_tn ?_
      exact ⟨x.vn - (k + 1), by omega, k + 1, _, rfl, by omega, (by rw [hod]; by_cases e : i < k; (rw [if_pos e, if_pos (by omega)]); (by_cases e2 : k = i; (exact absurd (by have := hXk.out; rw [e2, hbi] at this; injection this with q1 _ _; exact q1.symm) c14); rw [if_neg e, if_neg (by omega)])), f.sub ⟨rfl, rfl, rfl, rfl, rfl, rfl, trivial⟩, B0, rb1, rb4⟩
    clear f A; intro c13 A f
    refine wpList_nil ?_
    refine x_tn ?_
    refine x_condF f rfl ?_
    refine wp_exit ?_
    refine x_te ?_
    refine x_te ?_
    refine x_bh ?_
    refine x_tn ?_
    refine wp_seq ?_
    refine wp_seq ?_
    refine sx_list ?_
    refine l_do f rfl rfl rfl (y_move rfl rfl) ?_; clear f A; intro A f
    have hob : od = ob := by rw [hod, if_pos (by omega)]
    refine l_if _ f rfl rfl rfl (y_lss rfl rfl rfl) ?_ ?_
    · intro c15; exfalso; omega
    clear f A; intro c15 A f
    refine wpList_nil ?_
    refine x_tn ?_
    refine x_condF f rfl ?_
    refine wp_skip ?_
    refine x_tn ?_
    refine wp_seq ?_
    refine sx_list ?_
    refine l_do f rfl rfl rfl (y_loadN (vs := [_, _, _, _, _]) rfl rfl (ag rfl) rfl (rowls (rowq rb1) _ _ ⟨rfl, rfl, rfl, rfl, rfl, trivial⟩)) ?_; clear f A; intro A f
    have ly_b1 := row_lt rb1
    have ly_b4 := row_lt rb4
    have hyB := B0.size
    obtain ⟨s5, hs5⟩ : ∃ n, n = W12.heap.size := ⟨_, rfl⟩
    refine l_call f rfl rfl rfl (IsCall.mk' (cap := []) rfl rfl rfl) (pl rfl) (heapCopy_own _ x (hx.below B0)) ?_
    clear f A
    rintro _ W16 ⟨⟨y, rfl, ey, C, haw0⟩, hb17⟩
    refine ⟨_, rfl, ?_⟩
    rw [← hs5] at C haw0
    intro A f
    replace B0 := Below.next B0 hb17; replace rb1 := row_next rb1 hb17; replace rb4 := row_next rb4 hb17
    have aw_b1 : Away b1 y := haw0 _ (by omega)
    have aw_b4 : Away b4 y := haw0 _ (by omega)
    have hzn : 0 < y.zn := by have h1 := C.at_.zones.len; have h2 : y.zs.length = y.hp.zones.length := (by show _ = (y.zs.map _).length; rw [List.length_map]); rw [ey] at h2; have := hM.zs.n; omega
    obtain ⟨gz, HY⟩ := C.hz hzn
    have hgB := HY.gB
    have hgl := HY.lt hzn
    clear C haw0
    have HYc := HY
    refine l_as (z := .agg #[.slice none 0 0, .slice none 0 0, .int .i64 0, .slice none 0 0, .slice none 0 0]) f rfl rfl rfl rfl (by kernel_rfl) rfl rfl (fun _ => rfl) (fun _ => rfl) rfl (by intro u hu; simp [Value.cells] at hu; rcases hu with rfl | rfl | rfl | rfl | rfl <;> rfl) ?_; clear f A; intro b18 W19 eb18 hb20 rb18 A f
    dsimp only [Value.cells] at rb18
    have hpb18 := hb20
    have o_b1_b18 : b1 < b18 := by have := row_lt rb1; omega
    have o_b4_b18 : b4 < b18 := by have := row_lt rb4; omega
    have z_B0_b18 := B0.size; rw [eb18] at z_B0_b18
    replace B0 := Below.next B0 hb20; replace HY := HY.below hb20; replace rb1 := row_next rb1 hb20; replace rb4 := row_next rb4 hb20
    refine wpList_nil ?_
    refine x_tn ?_
    refine wp_seq ?_
    refine sx_list ?_
    have aw_b18 : Away b18 y := away_old HYc.at_ (by omega)
    have hg10 : gz < b18 := by omega
    clear HYc
    refine l_do f rfl rfl rfl (y_field rfl rfl (fo rfl)) ?_; clear f A; intro A f
    refine l_do f rfl rfl rfl (y_load1 rfl rfl (ag rfl) (rowl (rowq rb18) rfl)) ?_; clear f A; intro A f
    refine l_do f rfl rfl rfl (y_move rfl rfl) ?_; clear f A; intro A f
    refine l_do f rfl rfl rfl (y_move rfl rfl) ?_; clear f A; intro A f
    have lw_b1 := row_lt rb1
    have lw_b4 := row_lt rb4
    have lw_b18 := row_lt rb18
    have hgw := HY.lt hzn
    refine l_call f rfl rfl rfl (IsCall.mk' (cap := []) rfl rfl rfl) (pl rfl) (without_any _ y.vo y.vn y.vc y.live p od HY.at_.live) ?_
    clear f A
    rintro _ W21 ⟨bo, m, c, rfl, ov, hb22⟩
    refine ⟨_, rfl, ?_⟩
    intro A f
    replace B0 := Below.next B0 hb22; replace HY := HY.below hb22; replace rb1 := row_next rb1 hb22; replace rb4 := row_next rb4 hb22; replace rb18 := row_next rb18 hb22
    rw [hob] at ov
    have hbof : ∀ a, bo = some a → a.block ≠ gz := fun a ha => by have := (owns_blk ov a ha).1; omega
    have hbr : m * 24 ≤ 140737488351232 := by have h1 := bowns_len ov; have h2 := dropB_lenH y.live p ob; have h3 := HY.at_.live.len; have h4 := HY.at_.live.reach; omega
    replace HY : HZ W21 _ gz (y.withVo (dropB y.live p ob) bo m c) := HY.withVo ⟨bowns_len ov, hbr, blks_of_owns ov⟩ (fun _ => hbof)
    replace aw_b1 : Away b1 (y.withVo (dropB y.live p ob) bo m c) := away_withVo aw_b1 (fun _ a ha => by have := (owns_blk ov a ha).1; omega)
    replace aw_b4 : Away b4 (y.withVo (dropB y.live p ob) bo m c) := away_withVo aw_b4 (fun _ a ha => by have := (owns_blk ov a ha).1; omega)
    replace aw_b18 : Away b18 (y.withVo (dropB y.live p ob) bo m c) := away_withVo aw_b18 (fun _ a ha => by have := (owns_blk ov a ha).1; omega)
    have ey1 : (y.withVo (dropB y.live p ob) bo m c).hp = { x.hp with live := x.hp.live.eraseIdx i } := by rw [← drop_erase hM.lv hi hbi, ← ey]; rfl
    clear ov
    refine l_do f rfl rfl rfl (y_move rfl rfl) ?_; clear f A; intro A f
    refine l_do f rfl rfl rfl (y_ext rfl rfl rfl) ?_; clear f A; intro A f
    refine l_do f rfl rfl rfl (y_ext rfl rfl rfl) ?_; clear f A; intro A f
    refine l_do f rfl rfl rfl (y_field rfl rfl (fo rfl)) ?_; clear f A; intro A f
    refine l_store f rfl rfl rfl rfl rfl rb18 (sz rfl) rfl (Nat.le_of_ble_eq_true rfl) rfl ?_
    clear rb18; intro W23 hb24 rb18; dsimp only [setL, over, Value.cells] at rb18; replace B0 := Below.thenBut B0 hb24 (by omega); replace rb1 := But.row hb24 rb1 (by omega); replace rb4 := But.row hb24 rb4 (by omega); replace HY := HY.but hb24 (by omega) aw_b18
    refine wpList_nil ?_
    refine x_tn ?_
    refine wp_seq ?_
    refine wp_seq ?_
    refine sx_list ?_
    refine l_do f rfl rfl rfl (y_move rfl rfl) ?_; clear f A; intro A f
    refine l_if _ f rfl rfl rfl (y_gtr rfl rfl rfl) ?_ ?_
    · clear f A; intro c25 A f
      refine wpList_nil ?_
      refine x_tn ?_
      refine x_condT f rfl ?_
      refine wp_seq ?_
      refine sx_list ?_
      refine l_do f rfl rfl rfl (y_loadN (vs := [_, _, _, _, _]) rfl rfl (ag rfl) rfl (rowls (rowq rb18) _ _ ⟨rfl, rfl, rfl, rfl, rfl, trivial⟩)) ?_; clear f A; intro A f
      refine l_do f rfl rfl rfl (y_move rfl rfl) ?_; clear f A; intro A f
      refine l_do f rfl rfl rfl (y_move rfl rfl) ?_; clear f A; intro A f
      have hcb : CanBack (y.withVo (dropB y.live p ob) bo m c).hp p ob := canBack_live hM hi hbi ey1
      have hadj : Adj (y.withVo (dropB y.live p ob) bo m c) := by have h1 := hp_adj hM y ey; exact h1
      rw [hob] at f
      refine l_call f rfl rfl rfl (IsCall.mk' (cap := []) rfl rfl rfl) (pl rfl) (returned_ok _ _ gz (y.withVo (dropB y.live p ob) bo m c) p ob HY hcb hadj) ?_
      clear f
      have hlW := B0.size
      have lr_b1 := row_lt rb1
      have lr_b4 := row_lt rb4
      have lr_b18 := row_lt rb18
      rintro _ W26 ⟨rfl, zk, hzk, HY2, hb2, haw2⟩
      refine ⟨_, rfl, ?_⟩
      intro A f
      replace rb1 := But.row hb2 rb1 (by omega)
      replace aw_b1 := haw2 _ (by omega) aw_b1
      replace rb4 := But.row hb2 rb4 (by omega)
      replace aw_b4 := haw2 _ (by omega) aw_b4
      replace rb18 := But.row hb2 rb18 (by omega)
      replace aw_b18 := haw2 _ (by omega) aw_b18
      replace B0 := Below.thenBut B0 hb2 (by omega)
      refine l_store f rfl rfl rfl rfl rfl rb4 (sz rfl) rfl (Nat.le_of_ble_eq_true rfl) rfl ?_
      clear rb4; intro W27 hb28 rb4; dsimp only [setL, over, Value.cells] at rb4; replace B0 := Below.thenBut B0 hb28 (by omega); replace rb1 := But.row hb28 rb1 (by omega); replace rb18 := But.row hb28 rb18 (by omega); replace HY2 := HY2.but hb28 (by omega) aw_b4
      refine l_do f rfl rfl rfl (y_assign rfl rfl) ?_; clear f A; intro A f
      refine wpList_nil ?_
      refine x_tn ?_
      refine wp_ret ?_
      refine x_tr ?_
      refine x_retc1 f rfl rfl rfl (ag rfl) rb4 rfl ?_
      -- return 0: c9@23 ¬c13@30 ¬c15@48 c25@62
      exact ⟨⟨(y.withVo (dropB y.live p ob) bo m c).setZ (zIdx (y.withVo (dropB y.live p ob) bo m c).hp p) zk, rfl, HY2.at_, by rw [releaseH, if_pos (by show 0 < (x.live.getD i .zero).o; rw [hbi]; dsimp only; omega), setZ_hp hzk, ey1, hbi]⟩, B0⟩
    intro c25; exfalso; omega
  intro c9; exfalso; omega


end Go.Proofs.Ytbjlbmofdnkmiaa

/-
  OWN TEXT. Numbers behind others, and without the first ones, in memory.
-/
namespace Go.Proofs.Ytbjlbmofdnkmiaa
open Go Go.RowKit Go.Proofs.Ytbjlbmofdnkmiaa.Kit

theorem appI_run (w : World) (ty : TypeId) (base : Nat) (uo : Option Addr) (un uc : Nat) (xs : List Int) (p : Int) (gv : Nat) (own : w.ownsRow base 3 1 (.slice uo un uc) un (vals xs)) (hn : un ≤ 300) (hb : base ≤ w.heap.size)
    (hr : w.heap[gv]? = some (.cells #[.int .i64 p] 3 (0, 0))) :
    ∃ g' c' W, (Builtin.append_ #[24, 24] ty #[.slice uo un uc, .slice (some ⟨gv, 0, none⟩) 1 1]).run Try.prog w = .ok (.slice (some ⟨g', 0, none⟩) (un + 1) c') W ∧
      W.ownsRow base 3 1 (.slice (some ⟨g', 0, none⟩) (un + 1) c') (un + 1) (vals (xs ++ [p])) ∧ Below base w W := by
  obtain ⟨i1, hj, hy0, hy1, hy2⟩ := info_parts info_int
  have hnews : ∀ j v, (vals [p])[j]? = some v → w.cell? ((⟨gv, 0, none⟩ : Addr).add j) = some v := by
    intro j v hjv
    rw [add_at, Nat.zero_add]
    simp only [World.cell?, hr]
    change ([Value.int .i64 p] : List Value)[j]? = some v at hjv
    simpa using hjv
  obtain ⟨g', c', W, hrun, ow, hcs⟩ := append_row (P := Try.prog) w base 24 ty 3 i1 _ 1 Try.underlying24 hj hy0 hy1 rfl uo un uc (vals xs) own ⟨gv, 0, none⟩ 1 1 (vals [p]) rfl hnews (vals_oneCell _) (by omega) (by unfold maxLen; omega) (by rw [hy2]; omega) hb
  refine ⟨g', c', W, hrun, ?_, ?_⟩
  · rw [vals_append]
    exact ow
  · rcases hcs with ⟨_, h⟩ | ⟨_, h⟩
    · have hg : base ≤ g' := (owns_blk ow _ rfl).1
      exact h.below hg hb
    · exact h.mono hb
/-- The numbers from one on. -/
theorem y_sliceLo {C : World → Prop} {L : List (Nat × Value)} {o : Oper} {x : Operand} {g n cap H : Nat} (ho : o.op = .slice 24 x (some (.const (.int .i64 (H : Nat)))) none none) (hx : ev L x = some (.slice (some ⟨g, 0, none⟩) n cap)) (hH : H ≤ n) (hc : H < cap) :
    YC Try.prog C L o (.slice (some ⟨g, H, none⟩) (n - H) (cap - H)) := by
  intro ρ hρ wx _
  have h1 := hρ (.const (.int .i64 (H : Nat))) _ rfl
  have e1 : (Go.sizeOf 3).run Try.prog wx = .ok 1 wx := Try.sizeOf3 wx
  have e2 : ¬ (cap = H) := by omega
  have e : (Instr.sliceAt 24 (.slice (some ⟨g, 0, none⟩) n cap) (some (.int .i64 (H : Nat))) none none).run Try.prog wx = .ok (.slice (some ⟨g, H, none⟩) (n - H) (cap - H)) wx := by
    simp [Instr.sliceAt, Instr.slice, Instr.sliceBounds, Instr.sliceBound, run_under Try.underlying24, e1, go_sem, asIntOf, hH, e2, Addr.add]
    exact fun h => h.symm
  simp [execOp, ho, hρ _ _ hx, h1, e, go_sem]
theorem nums_drop {w : World} {g n k : Nat} {xs : List Int} (h : Nums w (some ⟨g, 0, none⟩) n xs) (hk : k ≤ n) : Nums w (some ⟨g, k, none⟩) (n - k) (xs.drop k) := by
  have hl := h.len
  have hr := h.reach
  refine ⟨by rw [List.length_drop]; omega, by omega, fun i hi => ?_⟩
  rw [List.length_drop] at hi
  obtain ⟨b, o, e, hc⟩ := h.at_ (k + i) (by omega)
  simp only [Option.some.injEq, Addr.mk.injEq, and_true] at e
  obtain ⟨rfl, rfl⟩ := e
  refine ⟨g, k, rfl, ?_⟩
  rw [Nat.zero_add] at hc
  rw [hc]
  simp only [List.getD_eq_getElem?_getD, List.getElem?_drop]
theorem type_at {z : Zn} {p : Int} (h : ZMay z) (h1 : z.f ≤ p) (h2 : p ≤ z.t - 1) : ∃ q : Nat, (p - z.f).tdiv 8 = (q : Int) ∧ q < z.types.length ∧ typeZ z p = z.types.getD q 0 := by
  have hn := h.new
  have hl := h.len
  unfold newOk at hn
  refine ⟨((p - z.f) / 8).toNat, ?_, by omega, rfl⟩
  rw [Int.tdiv_eq_ediv_of_nonneg (by omega)]
  omega

end Go.Proofs.Ytbjlbmofdnkmiaa
