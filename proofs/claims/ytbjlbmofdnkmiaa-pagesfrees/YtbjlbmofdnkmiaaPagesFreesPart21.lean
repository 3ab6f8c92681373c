/-
  OWN TEXTS, bundled: RefLs.
-/
import Derived.Test.YtbjlbmofdnkmiaaPagesFreesPart19
import Derived.Test.YtbjlbmofdnkmiaaPagesFreesPart20
import Derived.Test.YtbjlbmofdnkmiaaPagesFreesPart11

/-
  OWN TEXT. The document's answer: listOf, setList (written by sxls.py).
-/
namespace Go.Proofs.Ytbjlbmofdnkmiaa
open Go Go.RowKit Go.Proofs.Ytbjlbmofdnkmiaa.Kit

theorem lsPages_first {ls : List Lc} {x : Ls} {k : Nat} (hk : k < ls.length) (h : ∀ j, j < k → ¬ ((ls.getD j .zero).l.c = x.c ∧ (ls.getD j .zero).l.z = x.z ∧ (ls.getD j .zero).l.t = x.t)) (hs : (ls.getD k .zero).l.c = x.c ∧ (ls.getD k .zero).l.z = x.z ∧ (ls.getD k .zero).l.t = x.t) : lsPages (ls.map (·.l)) x = (ls.getD k .zero).l.pages := by
  have hl : (ls.map (·.l)).length = ls.length := List.length_map _
  have e0 : ls.map (·.l) = (ls.map (·.l)).take k ++ (ls.map (·.l)).drop k := (List.take_append_drop k _).symm
  have e1 : ((ls.map (·.l)).take k).find? (fun a => decide (a.c = x.c ∧ a.z = x.z ∧ a.t = x.t)) = none := by
    rw [List.find?_eq_none]
    intro a ha
    obtain ⟨j, hj, _, rfl⟩ := getD_take_mem ha
    rw [getD_l]
    simpa using h j hj
  have e2 : (ls.map (·.l)).drop k = (ls.getD k .zero).l :: (ls.map (·.l)).drop (k + 1) := by
    rw [← getD_l, List.getD_eq_getElem?_getD, List.getElem?_eq_getElem (by omega : k < (ls.map (·.l)).length)]
    exact (List.getElem_cons_drop _).symm
  unfold lsPages
  rw [e0, List.find?_append, e1, Option.none_or, e2, List.find?_cons_of_pos (by simpa using hs)]
  rfl
theorem lsPages_none {ls : List Lc} {x : Ls} (h : ∀ j, j < ls.length → ¬ ((ls.getD j .zero).l.c = x.c ∧ (ls.getD j .zero).l.z = x.z ∧ (ls.getD j .zero).l.t = x.t)) : lsPages (ls.map (·.l)) x = [] := by
  unfold lsPages
  have e1 : (ls.map (·.l)).find? (fun a => decide (a.c = x.c ∧ a.z = x.z ∧ a.t = x.t)) = none := by
    rw [List.find?_eq_none]
    intro a ha
    obtain ⟨j, hj, rfl⟩ := List.getElem_of_mem ha
    have hj' : j < ls.length := by rw [List.length_map] at hj; exact hj
    have := h j hj'
    rw [← getD_l, List.getD_eq_getElem?_getD, List.getElem?_eq_getElem hj] at this
    simpa using this
  rw [e1]
  rfl

set_option maxRecDepth 10000 in
set_option maxHeartbeats 4000000 in
theorem listOf_any (w : World) (y : Hx) (x : Ls) (hy : y.At w) :
    Calls Try.prog 53 #[.agg #[.slice y.zo y.zn y.zc, .slice y.mo y.mn y.mc, .int .i64 y.cpus, .slice y.lo y.ln y.lc, .slice y.vo y.vn y.vc], .int .i64 x.c, .int .i64 x.z, .int .i64 x.t] w fun e w' => ∃ bo n bc, e = .returned (.slice bo n bc) ∧ w'.ownsRow w.heap.size 3 1 (.slice bo n bc) n (vals (lsPages y.hp.lists x)) ∧ n = (lsPages y.hp.lists x).length ∧ Below w.heap.size w w' := by
  have hlr := hy.lists.reach
  have hll := hy.lists.len
  have B0 := Below.refl w.heap.size w
  refine sx_enter (args := [_, _, _, _]) 52 Try.func53 rfl rfl rfl ?_
  intro A f
  refine wp_seq ?_
  refine sx_list ?_
  refine l_box f rfl rfl rfl rfl rfl ?_; clear f A; intro b1 W2 eb1 hb3 rb1 A f; dsimp only [Value.cells] at rb1
  have z_B0_b1 := B0.size; rw [eb1] at z_B0_b1
  replace B0 := Below.next B0 hb3
  refine l_do f rfl rfl rfl (y_assign rfl rfl) ?_; clear f A; intro A f
  refine wpList_nil ?_
  refine x_tn ?_
  refine wp_seq ?_
  refine wp_seq ?_
  refine sx_list ?_
  refine l_do f rfl rfl rfl (y_assign rfl rfl) ?_; clear f A; intro A f
  refine wpList_nil ?_
  refine x_tn ?_
  refine wp_block ?_
  refine x_loop (fun n A W => ∃ k : Nat, n = y.ln - k ∧ k ≤ y.ln ∧ Fr A 52 [(1, .int .i64 x.c), (2, .int .i64 x.z), (3, .int .i64 x.t), (4, .pointer (some ⟨b1, 0, none⟩)), (9, .int .i64 (k : Nat))] ∧ Below w.heap.size w W ∧ W.heap[b1]? = some (.cells #[.slice y.zo y.zn y.zc, .slice y.mo y.mn y.mc, .int .i64 y.cpus, .slice y.lo y.ln y.lc, .slice y.vo y.vn y.vc] 28 (0, 0)) ∧ ∀ j, j < k → ¬ ((y.ls.getD j .zero).l.c = x.c ∧ (y.ls.getD j .zero).l.z = x.z ∧ (y.ls.getD j .zero).l.t = x.t)) (n0 := y.ln) (⟨0, rfl, Nat.zero_le _, f.sub ⟨rfl, rfl, rfl, rfl, rfl, trivial⟩, B0, rb1, fun j hj => absurd hj (Nat.not_lt_zero j)⟩) ?_
  clear f A
  clear B0 rb1
  rintro n A W4 ⟨k, hn, hk, f, B0, rb1, hno⟩
  refine wp_seq ?_
  refine wp_seq ?_
  refine sx_list ?_
  refine l_do f rfl rfl rfl (y_move rfl rfl) ?_; clear f A; intro A f
  refine l_do f rfl rfl rfl (y_field rfl rfl (fo rfl)) ?_; clear f A; intro A f
  refine l_do f rfl rfl rfl (y_load1 rfl rfl (ag rfl) (rowl (rowq rb1) rfl)) ?_; clear f A; intro A f
  refine l_do f rfl rfl rfl (y_len rfl rfl (sl rfl)) ?_; clear f A; intro A f
  refine l_if _ f rfl rfl rfl (y_lss rfl rfl rfl) ?_ ?_
  · clear f A; intro c5 A f
    refine wpList_nil ?_
    refine x_tn ?_
    refine x_condT f rfl ?_
    refine wp_skip ?_
    refine x_tn ?_
    refine wp_seq ?_
    refine wp_block ?_
    refine wp_seq ?_
    refine sx_list ?_
    refine l_do f rfl rfl rfl (y_field rfl rfl (fo rfl)) ?_; clear f A; intro A f
    refine l_do f rfl rfl rfl (y_load1 rfl rfl (ag rfl) (rowl (rowq rb1) rfl)) ?_; clear f A; intro A f
    refine l_do f rfl rfl rfl (y_move rfl rfl) ?_; clear f A; intro A f
    obtain ⟨gk, ok, lck, lzk, ltk, lpk, pok, pnk, pck, hak, c0k, c1k, c2k, c3k, hatk, hXk⟩ := hy.lists.at (k) (by omega)
    replace c0k := St.of c0k; replace c1k := St.of c1k; replace c2k := St.of c2k; replace c3k := St.of c3k
    refine l_do f rfl rfl rfl (y_index rfl rfl (by first | rfl | assumption) rfl (es rfl) (by omega)) ?_; clear f A; intro A f
    refine l_do f rfl rfl rfl (y_field rfl rfl (fo rfl)) ?_; clear f A; intro A f
    refine l_do f rfl rfl rfl (y_load1 rfl rfl (ag rfl) (St.q c0k B0)) ?_; clear f A; intro A f
    refine l_do f rfl rfl rfl (y_move rfl rfl) ?_; clear f A; intro A f
    refine l_if _ f rfl rfl rfl (y_eql rfl rfl rfl) ?_ ?_
    · clear f A; intro c6 A f
      refine l_do f rfl rfl rfl (y_move rfl rfl) ?_; clear f A; intro A f
      refine l_do f rfl rfl rfl (y_field rfl rfl (fo rfl)) ?_; clear f A; intro A f
      refine l_do f rfl rfl rfl (y_load1 rfl rfl (ag rfl) (rowl (rowq rb1) rfl)) ?_; clear f A; intro A f
      refine l_do f rfl rfl rfl (y_move rfl rfl) ?_; clear f A; intro A f
      refine l_do f rfl rfl rfl (y_index rfl rfl (by first | rfl | assumption) rfl (es rfl) (by omega)) ?_; clear f A; intro A f
      refine l_do f rfl rfl rfl (y_field rfl rfl (fo rfl)) ?_; clear f A; intro A f
      refine l_do f rfl rfl rfl (y_load1 rfl rfl (ag rfl) (St.q c1k B0)) ?_; clear f A; intro A f
      refine l_do f rfl rfl rfl (y_move rfl rfl) ?_; clear f A; intro A f
      refine l_if _ f rfl rfl rfl (y_eql rfl rfl rfl) ?_ ?_
      · clear f A; intro c7 A f
        refine l_do f rfl rfl rfl (y_pick rfl rfl rfl) ?_; clear f A; intro A f
        refine l_do f rfl rfl rfl (y_move rfl rfl) ?_; clear f A; intro A f
        refine l_do f rfl rfl rfl (y_field rfl rfl (fo rfl)) ?_; clear f A; intro A f
        refine l_do f rfl rfl rfl (y_load1 rfl rfl (ag rfl) (rowl (rowq rb1) rfl)) ?_; clear f A; intro A f
        refine l_do f rfl rfl rfl (y_move rfl rfl) ?_; clear f A; intro A f
        refine l_do f rfl rfl rfl (y_index rfl rfl (by first | rfl | assumption) rfl (es rfl) (by omega)) ?_; clear f A; intro A f
        refine l_do f rfl rfl rfl (y_field rfl rfl (fo rfl)) ?_; clear f A; intro A f
        refine l_do f rfl rfl rfl (y_load1 rfl rfl (ag rfl) (St.q c2k B0)) ?_; clear f A; intro A f
        refine l_do f rfl rfl rfl (y_move rfl rfl) ?_; clear f A; intro A f
        refine l_if _ f rfl rfl rfl (y_eql rfl rfl rfl) ?_ ?_
        · clear f A; intro c8 A f
          refine l_do f rfl rfl rfl (y_pick rfl rfl rfl) ?_; clear f A; intro A f
          refine wpList_nil ?_
          refine x_tn ?_
          refine x_condT f rfl ?_
          refine wp_seq ?_
          refine sx_list ?_
          refine l_do f rfl rfl rfl (y_field rfl rfl (fo rfl)) ?_; clear f A; intro A f
          refine l_do f rfl rfl rfl (y_load1 rfl rfl (ag rfl) (rowl (rowq rb1) rfl)) ?_; clear f A; intro A f
          refine l_do f rfl rfl rfl (y_move rfl rfl) ?_; clear f A; intro A f
          refine l_do f rfl rfl rfl (y_index rfl rfl (by first | rfl | assumption) rfl (es rfl) (by omega)) ?_; clear f A; intro A f
          refine l_do f rfl rfl rfl (y_field rfl rfl (fo rfl)) ?_; clear f A; intro A f
          refine l_do f rfl rfl rfl (y_load1 rfl rfl (ag rfl) (St.q c3k B0)) ?_; clear f A; intro A f
          refine l_call f rfl rfl rfl (IsCall.mk' (cap := []) rfl rfl rfl) (pl rfl) (words_any _ pok pnk pck lpk hatk.len hatk.reach (hatk.below B0).at_) ?_
          clear f A
          rintro _ W9 ⟨bo, bc, rfl, how, hb10⟩
          refine ⟨_, rfl, ?_⟩
          intro A f
          have hsz := B0.size
          replace B0 := Below.next B0 hb10; replace rb1 := row_next rb1 hb10
          refine l_do f rfl rfl rfl (y_assign rfl rfl) ?_; clear f A; intro A f
          refine wpList_nil ?_
          refine x_tn ?_
          refine wp_ret ?_
          refine x_br ?_
          refine x_tr ?_
          refine x_tr ?_
          refine x_br ?_
          refine x_tr ?_
          refine x_ret1 f rfl rfl ?_
          -- return 0: c5@14 c6@24 c7@33 c8@43
          have hs : ((y.ls.getD k .zero).l.c = x.c ∧ (y.ls.getD k .zero).l.z = x.z ∧ (y.ls.getD k .zero).l.t = x.t) := by rw [hXk.out]; exact ⟨c6, c7, c8⟩
          exact ⟨bo, pnk, bc, rfl, by rw [show y.hp.lists = y.ls.map (·.l) from rfl, lsPages_first (by have := hy.lists.len; omega) hno hs, hXk.out]; exact owns_weaken how hsz, hatk.len.symm.trans (by rw [show y.hp.lists = y.ls.map (·.l) from rfl, lsPages_first (by have := hy.lists.len; omega) hno hs, hXk.out]), B0⟩
        clear f A; intro c8 A f
        refine l_do f rfl rfl rfl (y_pick rfl rfl rfl) ?_; clear f A; intro A f
        refine wpList_nil ?_
        refine x_tn ?_
        refine x_condF f rfl ?_
        refine wp_skip ?_
        refine x_bn ?_
        refine x_tn ?_
        refine sx_list ?_
        refine l_do f rfl rfl rfl (y_move rfl rfl) ?_; clear f A; intro A f
        refine l_do f rfl rfl rfl (y_add rfl rfl rfl rfl (by omega)) ?_; clear f A; intro A f
        refine l_do f rfl rfl rfl (y_assign rfl rfl) ?_; clear f A; intro A f
        refine wpList_nil ?_
        refine x_tn ?_
        refine ⟨y.ln - (k + 1), by omega, k + 1, rfl, by omega, f.sub ⟨rfl, rfl, rfl, rfl, rfl, trivial⟩, B0, rb1, fun j hj => ?_⟩
        by_cases e : j = k
        · subst e
          rw [hXk.out]
          exact fun h => c8 h.2.2
        exact hno j (by omega)
      clear f A; intro c7 A f
      refine l_do f rfl rfl rfl (y_pick rfl rfl rfl) ?_; clear f A; intro A f
      refine l_do f rfl rfl rfl (y_move rfl rfl) ?_; clear f A; intro A f
      refine l_no f rfl rfl rfl ?_; clear f A; intro A f
      refine l_no f rfl rfl rfl ?_; clear f A; intro A f
      refine l_no f rfl rfl rfl ?_; clear f A; intro A f
      refine l_no f rfl rfl rfl ?_; clear f A; intro A f
      refine l_no f rfl rfl rfl ?_; clear f A; intro A f
      refine l_no f rfl rfl rfl ?_; clear f A; intro A f
      refine l_no f rfl rfl rfl ?_; clear f A; intro A f
      refine l_no f rfl rfl rfl ?_; clear f A; intro A f
      refine l_do f rfl rfl rfl (y_pick rfl rfl rfl) ?_; clear f A; intro A f
      refine wpList_nil ?_
      refine x_tn ?_
      refine x_condF f rfl ?_
      refine wp_skip ?_
      refine x_bn ?_
      refine x_tn ?_
      refine sx_list ?_
      refine l_do f rfl rfl rfl (y_move rfl rfl) ?_; clear f A; intro A f
      refine l_do f rfl rfl rfl (y_add rfl rfl rfl rfl (by omega)) ?_; clear f A; intro A f
      refine l_do f rfl rfl rfl (y_assign rfl rfl) ?_; clear f A; intro A f
      refine wpList_nil ?_
      refine x_tn ?_
      refine ⟨y.ln - (k + 1), by omega, k + 1, rfl, by omega, f.sub ⟨rfl, rfl, rfl, rfl, rfl, trivial⟩, B0, rb1, fun j hj => ?_⟩
      by_cases e : j = k
      · subst e
        rw [hXk.out]
        exact fun h => c7 h.2.1
      exact hno j (by omega)
    clear f A; intro c6 A f
    refine l_do f rfl rfl rfl (y_move rfl rfl) ?_; clear f A; intro A f
    refine l_no f rfl rfl rfl ?_; clear f A; intro A f
    refine l_no f rfl rfl rfl ?_; clear f A; intro A f
    refine l_no f rfl rfl rfl ?_; clear f A; intro A f
    refine l_no f rfl rfl rfl ?_; clear f A; intro A f
    refine l_no f rfl rfl rfl ?_; clear f A; intro A f
    refine l_no f rfl rfl rfl ?_; clear f A; intro A f
    refine l_no f rfl rfl rfl ?_; clear f A; intro A f
    refine l_no f rfl rfl rfl ?_; clear f A; intro A f
    refine l_do f rfl rfl rfl (y_pick rfl rfl rfl) ?_; clear f A; intro A f
    refine l_do f rfl rfl rfl (y_move rfl rfl) ?_; clear f A; intro A f
    refine l_no f rfl rfl rfl ?_; clear f A; intro A f
    refine l_no f rfl rfl rfl ?_; clear f A; intro A f
    refine l_no f rfl rfl rfl ?_; clear f A; intro A f
    refine l_no f rfl rfl rfl ?_; clear f A; intro A f
    refine l_no f rfl rfl rfl ?_; clear f A; intro A f
    refine l_no f rfl rfl rfl ?_; clear f A; intro A f
    refine l_no f rfl rfl rfl ?_; clear f A; intro A f
    refine l_no f rfl rfl rfl ?_; clear f A; intro A f
    refine l_do f rfl rfl rfl (y_pick rfl rfl rfl) ?_; clear f A; intro A f
    refine wpList_nil ?_
    refine x_tn ?_
    refine x_condF f rfl ?_
    refine wp_skip ?_
    refine x_bn ?_
    refine x_tn ?_
    refine sx_list ?_
    refine l_do f rfl rfl rfl (y_move rfl rfl) ?_; clear f A; intro A f
    refine l_do f rfl rfl rfl (y_add rfl rfl rfl rfl (by omega)) ?_; clear f A; intro A f
    refine l_do f rfl rfl rfl (y_assign rfl rfl) ?_; clear f A; intro A f
    refine wpList_nil ?_
    refine x_tn ?_
    refine ⟨y.ln - (k + 1), by omega, k + 1, rfl, by omega, f.sub ⟨rfl, rfl, rfl, rfl, rfl, trivial⟩, B0, rb1, fun j hj => ?_⟩
    by_cases e : j = k
    · subst e
      rw [hXk.out]
      exact fun h => c6 h.1
    exact hno j (by omega)
  clear f A; intro c5 A f
  refine wpList_nil ?_
  refine x_tn ?_
  refine x_condF f rfl ?_
  refine wp_exit ?_
  refine x_te ?_
  refine x_te ?_
  refine x_bh ?_
  refine x_tn ?_
  refine wp_seq ?_
  refine sx_list ?_
  refine l_do f rfl rfl rfl (y_assign rfl rfl) ?_; clear f A; intro A f
  refine wpList_nil ?_
  refine x_tn ?_
  refine wp_ret ?_
  refine x_ret1 f rfl rfl ?_
  -- return 1: ¬c5@14
  have e0 : lsPages y.hp.lists x = [] := lsPages_none (fun j hj => hno j (by have := hy.lists.len; omega))
  exact ⟨none, 0, 0, rfl, by rw [e0]; exact World.ownsRow_nil _ _ _ _, by rw [e0]; rfl, B0⟩

theorem below_row {n b : Nat} {w w' : World} {x : Obj} (h : Below n w w') (hr : w.heap[b]? = some x) (hb : b < n) : w'.heap[b]? = some x := by
  rw [h.block b hb]; exact hr

set_option maxRecDepth 10000 in
set_option maxHeartbeats 4000000 in
theorem setList_any (w : World) (y : Hx) (x : Ls) (po : Option Addr) (pn pc : Nat) (hy : y.At w) (hord : RiseL y.ls) (hln : y.ln ≤ 100) (hN : Nums w po pn x.pages) :
    Calls Try.prog 54 #[.agg #[.slice y.zo y.zn y.zc, .slice y.mo y.mn y.mc, .int .i64 y.cpus, .slice y.lo y.ln y.lc, .slice y.vo y.vn y.vc], .int .i64 x.c, .int .i64 x.z, .int .i64 x.t, .slice po pn pc] w fun e w' => ∃ ls lo ln lc, e = .returned (.agg #[.slice y.zo y.zn y.zc, .slice y.mo y.mn y.mc, .int .i64 y.cpus, .slice lo ln lc, .slice y.vo y.vn y.vc]) ∧ (y.withL ls lo ln lc).At w' ∧ ls.map (·.l) = setLs y.hp.lists x ∧ Below w.heap.size w w' ∧ (∀ a, lo = some a → w.heap.size ≤ a.block) ∧ ∀ l ∈ ls, l ∈ y.ls ∨ l = ⟨x, po, pn, pc⟩ := by
  have hll := hy.lists.len
  have hlr := hy.lists.reach
  have hlp : y.hp.lists.length = y.ln := by show (y.ls.map _).length = _; rw [List.length_map]; exact hll
  have B0 := Below.refl w.heap.size w
  refine sx_enter (args := [_, _, _, _, _]) 96 Try.func54 rfl rfl rfl ?_
  intro A f
  refine wp_seq ?_
  refine sx_list ?_
  refine l_box f rfl rfl rfl rfl rfl ?_; clear f A; intro b1 W2 eb1 hb3 rb1 A f; dsimp only [Value.cells] at rb1
  have z_B0_b1 := B0.size; rw [eb1] at z_B0_b1
  replace B0 := Below.next B0 hb3
  refine l_alloc (z := .agg #[.slice none 0 0, .slice none 0 0, .int .i64 0, .slice none 0 0, .slice none 0 0]) f rfl rfl rfl rfl (by kernel_rfl) ?_; clear f A; intro b4 W5 eb4 hb6 rb4 A f; dsimp only [Value.cells] at rb4
  have o_b1_b4 : b1 < b4 := by have := row_lt rb1; omega
  have z_B0_b4 := B0.size; rw [eb4] at z_B0_b4
  replace B0 := Below.next B0 hb6; replace rb1 := row_next rb1 hb6
  refine wpList_nil ?_
  refine x_tn ?_
  refine wp_seq ?_
  refine sx_list ?_
  refine l_do f rfl rfl rfl (y_move rfl rfl) ?_; clear f A; intro A f
  refine l_do f rfl rfl rfl (y_move rfl rfl) ?_; clear f A; intro A f
  refine l_do f rfl rfl rfl (y_move rfl rfl) ?_; clear f A; intro A f
  refine l_do f rfl rfl rfl (y_move rfl rfl) ?_; clear f A; intro A f
  refine l_do f rfl rfl rfl (y_build #[.int .i64 x.c, .int .i64 x.z, .int .i64 x.t, .slice po pn pc] rfl rfl (by kernel_rfl)) ?_; clear f A; intro A f
  refine l_as (z := .agg #[.int .i64 0, .int .i64 0, .int .i64 0, .slice none 0 0]) f rfl rfl rfl rfl (by kernel_rfl) rfl rfl (fun _ => rfl) (fun _ => rfl) rfl (by intro u hu; simp [Value.cells] at hu; rcases hu with rfl | rfl | rfl | rfl <;> rfl) ?_; clear f A; intro b7 W8 eb7 hb9 rb7 A f
  dsimp only [Value.cells] at rb7
  have hpb7 := hb9
  have o_b1_b7 : b1 < b7 := by have := row_lt rb1; omega
  have o_b4_b7 : b4 < b7 := by have := row_lt rb4; omega
  have z_B0_b7 := B0.size; rw [eb7] at z_B0_b7
  replace B0 := Below.next B0 hb9; replace rb1 := row_next rb1 hb9; replace rb4 := row_next rb4 hb9
  refine wpList_nil ?_
  refine x_tn ?_
  refine wp_seq ?_
  refine sx_list ?_
  refine l_do f rfl rfl rfl (y_assign rfl rfl) ?_; clear f A; intro A f
  refine wpList_nil ?_
  refine x_tn ?_
  refine wp_seq ?_
  refine sx_list ?_
  refine l_do f rfl rfl rfl (y_move rfl rfl) ?_; clear f A; intro A f
  refine l_do f rfl rfl rfl (y_len rfl rfl (sl rfl)) ?_; clear f A; intro A f
  refine l_do f rfl rfl rfl (y_eql rfl rfl rfl) ?_; clear f A; intro A f
  refine l_do f rfl rfl rfl (y_assign rfl rfl) ?_; clear f A; intro A f
  refine wpList_nil ?_
  refine x_tn ?_
  refine wp_seq ?_
  refine wp_seq ?_
  refine sx_list ?_
  refine l_do f rfl rfl rfl (y_assign rfl rfl) ?_; clear f A; intro A f
  refine wpList_nil ?_
  refine x_tn ?_
  refine wp_block ?_
  obtain ⟨s1, hs1⟩ : ∃ n, n = W8.heap.size := ⟨_, rfl⟩
  have l1_b1 : b1 < s1 := by rw [hs1]; exact row_lt rb1
  have l1_b4 : b4 < s1 := by rw [hs1]; exact row_lt rb4
  have l1_b7 : b7 < s1 := by rw [hs1]; exact row_lt rb7
  have hw1 : w.heap.size ≤ s1 := by rw [hs1]; exact B0.size
  refine x_loop (fun n A W => ∃ (k : Nat) (lsk : List Lc) (uo : Option Addr) (un uc : Nat) (d : Bool), n = y.ln - k ∧ k ≤ y.ln ∧ Fr A 96 [(1, .int .i64 x.c), (2, .int .i64 x.z), (3, .int .i64 x.t), (5, .pointer (some ⟨b1, 0, none⟩)), (10, .pointer (some ⟨b4, 0, none⟩)), (11, .pointer (some ⟨b7, 0, none⟩)), (12, .slice uo un uc), (13, .bool d), (14, .int .i64 (k : Nat))] ∧ Below w.heap.size w W ∧ W.heap[b1]? = some (.cells #[.slice y.zo y.zn y.zc, .slice y.mo y.mn y.mc, .int .i64 y.cpus, .slice y.lo y.ln y.lc, .slice y.vo y.vn y.vc] 28 (0, 0)) ∧ W.heap[b4]? = some (.cells #[.slice none 0 0, .slice none 0 0, .int .i64 0, .slice none 0 0, .slice none 0 0] 28 (0, 0)) ∧ W.heap[b7]? = some (.cells #[.int .i64 x.c, .int .i64 x.z, .int .i64 x.t, .slice po pn pc] 57 (0, 0)) ∧ W.ownsRow s1 57 4 (.slice uo un uc) un (c4 (lsk.map Lc.q)) ∧ s1 ≤ W.heap.size ∧ un ≤ 2 * k ∧ setFold x (y.hp.lists.take k) = (lsk.map (·.l), d) ∧ ∀ l ∈ lsk, l ∈ y.ls ∨ l = (⟨x, po, pn, pc⟩ : Lc)) (n0 := y.ln) (⟨0, [], none, 0, 0, decide ((pn : Int) = 0), rfl, Nat.zero_le _, f.sub ⟨rfl, rfl, rfl, rfl, rfl, rfl, rfl, rfl, rfl, trivial⟩, B0, rb1, rb4, rb7, World.ownsRow_nil _ _ _ _, Nat.le_of_eq hs1, Nat.zero_le _, by show ([], decide (x.pages.length = 0)) = _; rw [decide_eq_decide.2 (show x.pages.length = 0 ↔ (pn : Int) = 0 by have := hN.len; omega)]; rfl, fun l hl => by cases hl⟩) ?_
  clear f A
  clear B0 rb1 rb4 rb7
  rintro n A W10 ⟨k, lsk, uo, un, uc, d, hn, hk, f, B0, rb1, rb4, rb7, ow, hsl, hul, hF, hmm⟩
  refine wp_seq ?_
  refine wp_seq ?_
  refine sx_list ?_
  refine l_do f rfl rfl rfl (y_move rfl rfl) ?_; clear f A; intro A f
  refine l_do f rfl rfl rfl (y_field rfl rfl (fo rfl)) ?_; clear f A; intro A f
  refine l_do f rfl rfl rfl (y_load1 rfl rfl (ag rfl) (rowl (rowq rb1) rfl)) ?_; clear f A; intro A f
  refine l_do f rfl rfl rfl (y_len rfl rfl (sl rfl)) ?_; clear f A; intro A f
  refine l_if _ f rfl rfl rfl (y_lss rfl rfl rfl) ?_ ?_
  · clear f A; intro c11 A f
    refine wpList_nil ?_
    refine x_tn ?_
    refine x_condT f rfl ?_
    refine wp_skip ?_
    refine x_tn ?_
    refine wp_seq ?_
    refine wp_block ?_
    refine wp_seq ?_
    refine wp_seq ?_
    refine sx_quiet (by kernel_rfl) (by kernel_rfl) ?_
    obtain ⟨gk, ok, lck, lzk, ltk, lpk, pok, pnk, pck, hak, c0k, c1k, c2k, c3k, hatk, hXk⟩ := hy.lists.at (k) (by omega)
    replace c0k := St.of c0k; replace c1k := St.of c1k; replace c2k := St.of c2k; replace c3k := St.of c3k
    have hke : y.ls.getD k .zero = ⟨⟨lck, lzk, ltk, lpk⟩, pok, pnk, pck⟩ := hXk.out
    have hmk : (⟨⟨lck, lzk, ltk, lpk⟩, pok, pnk, pck⟩ : Lc) ∈ y.ls := by rw [← hke]; exact getD_mem (by omega)
    have hka : y.hp.lists.getD k .zero = ⟨lck, lzk, ltk, lpk⟩ := by show (List.map (fun z : Lc => z.l) y.ls).getD k Ls.zero = _; rw [getD_l, hke]
    refine q_if (d = true) f rfl rfl rfl (by rw [Bool.decide_eq_true]; exact y_move rfl rfl) ?_ ?_
    · clear f A; intro c12 A f
      obtain rfl : d = true := c12
      refine q_do f rfl rfl rfl (y_not rfl rfl) ?_; clear f A; intro A f
      refine q_do f rfl rfl rfl (y_move rfl rfl) ?_; clear f A; intro A f
      refine q_no f rfl rfl rfl ?_; clear f A; intro A f
      refine q_no f rfl rfl rfl ?_; clear f A; intro A f
      refine q_no f rfl rfl rfl ?_; clear f A; intro A f
      refine q_no f rfl rfl rfl ?_; clear f A; intro A f
      refine q_no f rfl rfl rfl ?_; clear f A; intro A f
      refine q_no f rfl rfl rfl ?_; clear f A; intro A f
      refine q_no f rfl rfl rfl ?_; clear f A; intro A f
      refine q_do f rfl rfl rfl (y_pick rfl rfl rfl) ?_; clear f A; intro A f
      refine wpQuiet_nil ?_; intro W14 hb13; replace B0 := Below.next B0 hb13; replace rb1 := row_next rb1 hb13; replace rb4 := row_next rb4 hb13; replace rb7 := row_next rb7 hb13; replace ow := owns_below ow hb13 (Nat.le_refl _); replace hsl := Nat.le_trans hsl hb13.size
      refine x_tn ?_
      refine x_condF f rfl ?_
      refine wp_skip ?_
      refine x_tn ?_
      refine wp_seq ?_
      refine wp_seq ?_
      refine sx_list ?_
      refine l_do f rfl rfl rfl (y_field rfl rfl (fo rfl)) ?_; clear f A; intro A f
      refine l_do f rfl rfl rfl (y_load1 rfl rfl (ag rfl) (rowl (rowq rb1) rfl)) ?_; clear f A; intro A f
      refine l_do f rfl rfl rfl (y_move rfl rfl) ?_; clear f A; intro A f
      refine l_do f rfl rfl rfl (y_index rfl rfl (by first | rfl | assumption) rfl (es rfl) (by omega)) ?_; clear f A; intro A f
      refine l_do f rfl rfl rfl (y_field rfl rfl (fo rfl)) ?_; clear f A; intro A f
      refine l_do f rfl rfl rfl (y_load1 rfl rfl (ag rfl) (St.q c0k B0)) ?_; clear f A; intro A f
      refine l_do f rfl rfl rfl (y_move rfl rfl) ?_; clear f A; intro A f
      refine l_if _ f rfl rfl rfl (y_eql rfl rfl rfl) ?_ ?_
      · clear f A; intro c15 A f
        refine l_do f rfl rfl rfl (y_move rfl rfl) ?_; clear f A; intro A f
        refine l_do f rfl rfl rfl (y_field rfl rfl (fo rfl)) ?_; clear f A; intro A f
        refine l_do f rfl rfl rfl (y_load1 rfl rfl (ag rfl) (rowl (rowq rb1) rfl)) ?_; clear f A; intro A f
        refine l_do f rfl rfl rfl (y_move rfl rfl) ?_; clear f A; intro A f
        refine l_do f rfl rfl rfl (y_index rfl rfl (by first | rfl | assumption) rfl (es rfl) (by omega)) ?_; clear f A; intro A f
        refine l_do f rfl rfl rfl (y_field rfl rfl (fo rfl)) ?_; clear f A; intro A f
        refine l_do f rfl rfl rfl (y_load1 rfl rfl (ag rfl) (St.q c1k B0)) ?_; clear f A; intro A f
        refine l_do f rfl rfl rfl (y_move rfl rfl) ?_; clear f A; intro A f
        refine l_if _ f rfl rfl rfl (y_eql rfl rfl rfl) ?_ ?_
        · clear f A; intro c16 A f
          refine l_do f rfl rfl rfl (y_pick rfl rfl rfl) ?_; clear f A; intro A f
          refine l_do f rfl rfl rfl (y_move rfl rfl) ?_; clear f A; intro A f
          refine l_do f rfl rfl rfl (y_field rfl rfl (fo rfl)) ?_; clear f A; intro A f
          refine l_do f rfl rfl rfl (y_load1 rfl rfl (ag rfl) (rowl (rowq rb1) rfl)) ?_; clear f A; intro A f
          refine l_do f rfl rfl rfl (y_move rfl rfl) ?_; clear f A; intro A f
          refine l_do f rfl rfl rfl (y_index rfl rfl (by first | rfl | assumption) rfl (es rfl) (by omega)) ?_; clear f A; intro A f
          refine l_do f rfl rfl rfl (y_field rfl rfl (fo rfl)) ?_; clear f A; intro A f
          refine l_do f rfl rfl rfl (y_load1 rfl rfl (ag rfl) (St.q c2k B0)) ?_; clear f A; intro A f
          refine l_do f rfl rfl rfl (y_move rfl rfl) ?_; clear f A; intro A f
          refine l_if _ f rfl rfl rfl (y_eql rfl rfl rfl) ?_ ?_
          · clear f A; intro c17 A f
            refine l_do f rfl rfl rfl (y_pick rfl rfl rfl) ?_; clear f A; intro A f
            refine wpList_nil ?_
            refine x_tn ?_
            refine x_condT f rfl ?_
            refine wp_seq ?_
            refine wp_seq ?_
            refine sx_list ?_
            refine l_do f rfl rfl rfl (y_move rfl rfl) ?_; clear f A; intro A f
            refine l_do f rfl rfl rfl (y_not rfl rfl) ?_; clear f A; intro A f
            refine wpList_nil ?_
            refine x_tn ?_
            refine x_condF f rfl ?_
            refine wp_skip ?_
            refine x_tn ?_
            refine wp_exit ?_
            refine x_te ?_
            refine x_bh ?_
            refine x_tn ?_
            refine sx_list ?_
            refine l_do f rfl rfl rfl (y_move rfl rfl) ?_; clear f A; intro A f
            refine l_do f rfl rfl rfl (y_add rfl rfl rfl rfl (by omega)) ?_; clear f A; intro A f
            refine l_do f rfl rfl rfl (y_assign rfl rfl) ?_; clear f A; intro A f
            refine wpList_nil ?_
            refine x_tn ?_
            have hs : (⟨lck, lzk, ltk, lpk⟩ : Ls).c = x.c ∧ (⟨lck, lzk, ltk, lpk⟩ : Ls).z = x.z ∧ (⟨lck, lzk, ltk, lpk⟩ : Ls).t = x.t := ⟨c15, c16, c17⟩
            have hA : ¬ ((lsk.map (·.l), true).2 = false ∧ aheadL x (⟨lck, lzk, ltk, lpk⟩ : Ls)) := fun h => (by cases h.1)
            have hst : setStep x (lsk.map (·.l), true) (⟨lck, lzk, ltk, lpk⟩ : Ls) = (lsk.map (·.l), true) := by
              unfold setStep
              rw [if_pos hs, if_neg hA]
              simp
            exact ⟨y.ln - (k + 1), by omega, k + 1, lsk, uo, un, uc, true, rfl, by omega, f.sub ⟨rfl, rfl, rfl, rfl, rfl, rfl, rfl, rfl, rfl, trivial⟩, B0, rb1, rb4, rb7, ow, hsl, by omega, by rw [setFold_succ x _ k (by omega) hka, hF, hst], hmm⟩
          clear f A; intro c17 A f
          refine l_do f rfl rfl rfl (y_pick rfl rfl rfl) ?_; clear f A; intro A f
          refine wpList_nil ?_
          refine x_tn ?_
          refine x_condF f rfl ?_
          refine wp_skip ?_
          refine x_tn ?_
          refine sx_list ?_
          refine l_do f rfl rfl rfl (y_move rfl rfl) ?_; clear f A; intro A f
          refine l_do f rfl rfl rfl (y_field rfl rfl (fo rfl)) ?_; clear f A; intro A f
          refine l_do f rfl rfl rfl (y_load1 rfl rfl (ag rfl) (rowl (rowq rb1) rfl)) ?_; clear f A; intro A f
          refine l_do f rfl rfl rfl (y_move rfl rfl) ?_; clear f A; intro A f
          refine l_do f rfl rfl rfl (y_index rfl rfl (by first | rfl | assumption) rfl (es rfl) (by omega)) ?_; clear f A; intro A f
          refine l_do f rfl rfl rfl (y_loadN (vs := [_, _, _, _]) rfl rfl (ag rfl) rfl ⟨(St.q c0k B0), (St.q c1k B0), (St.q c2k B0), (St.q c3k B0), trivial⟩) ?_; clear f A; intro A f
          obtain ⟨gvW18, hgvW18⟩ : ∃ g, g = W14.heap.size := ⟨_, rfl⟩
          refine l_opR (R := fun v W => v = .slice (some ⟨gvW18, 0, none⟩) 1 1 ∧ Below W14.heap.size W14 W ∧ W.heap[gvW18]? = some (.cells #[.int .i64 lck, .int .i64 lzk, .int .i64 ltk, .slice pok pnk pck] 57 (0, 0))) f rfl rfl rfl ⟨_, _, bs_exec f rfl rfl (bs_listH _ _ _ _ _), by rw [hgvW18], (Below.refl _ _).alloc (Nat.le_refl _) _, by rw [hgvW18]; show (Array.push _ _)[_]? = _; rw [Array.getElem?_push, if_pos rfl]⟩ ?_
          clear f A
          rintro _ W18 ⟨rfl, hb19, rgvW18⟩ A f
          replace B0 := Below.next B0 hb19; replace rb1 := row_next rb1 hb19; replace rb4 := row_next rb4 hb19; replace rb7 := row_next rb7 hb19; replace ow := owns_below ow hb19 (Nat.le_refl _); replace hsl := Nat.le_trans hsl hb19.size
          refine l_opR (R := fun v W => ∃ g2 c2, v = .slice (some ⟨g2, 0, none⟩) (un + 1) c2 ∧ W.ownsRow s1 57 4 (.slice (some ⟨g2, 0, none⟩) (un + 1) c2) (un + 1) (c4 ((lsk ++ [(⟨⟨lck, lzk, ltk, lpk⟩, pok, pnk, pck⟩ : Lc)]).map Lc.q)) ∧ Below s1 W18 W) f rfl rfl rfl (by obtain ⟨g2, c2, W2, h1, h2, h3⟩ := appL_run W18 _ s1 uo un uc lsk (⟨⟨lck, lzk, ltk, lpk⟩, pok, pnk, pck⟩ : Lc) gvW18 ow (by omega) (by omega) rgvW18; exact ⟨_, W2, append_exec f rfl rfl rfl h1, g2, c2, rfl, h2, h3⟩) ?_
          clear f A
          rintro _ W20 ⟨g1W20, d1W20, rfl, ow1W20, hb21⟩ A f
          replace B0 := B0.trans (hb21.mono hw1)
          replace hsl := Nat.le_trans hsl hb21.size
          replace rb1 := below_row hb21 rb1 l1_b1
          replace rb4 := below_row hb21 rb4 l1_b4
          replace rb7 := below_row hb21 rb7 l1_b7
          have hm1W20 : ∀ l ∈ lsk ++ [(⟨⟨lck, lzk, ltk, lpk⟩, pok, pnk, pck⟩ : Lc)], l ∈ y.ls ∨ l = (⟨x, po, pn, pc⟩ : Lc) := fun l hl => by
            rcases List.mem_append.1 hl with h | h
            · exact hmm l h
            rw [List.mem_singleton] at h
            exact .inl (by rw [h]; exact hmk)
          refine l_do f rfl rfl rfl (y_assign rfl rfl) ?_; clear f A; intro A f
          refine wpList_nil ?_
          refine x_bn ?_
          refine x_tn ?_
          refine sx_list ?_
          refine l_do f rfl rfl rfl (y_move rfl rfl) ?_; clear f A; intro A f
          refine l_do f rfl rfl rfl (y_add rfl rfl rfl rfl (by omega)) ?_; clear f A; intro A f
          refine l_do f rfl rfl rfl (y_assign rfl rfl) ?_; clear f A; intro A f
          refine wpList_nil ?_
          refine x_tn ?_
          have hs : ¬ ((⟨lck, lzk, ltk, lpk⟩ : Ls).c = x.c ∧ (⟨lck, lzk, ltk, lpk⟩ : Ls).z = x.z ∧ (⟨lck, lzk, ltk, lpk⟩ : Ls).t = x.t) := fun h => c17 h.2.2
          have hA : ¬ ((lsk.map (·.l), true).2 = false ∧ aheadL x (⟨lck, lzk, ltk, lpk⟩ : Ls)) := fun h => (by cases h.1)
          have hst : setStep x (lsk.map (·.l), true) (⟨lck, lzk, ltk, lpk⟩ : Ls) = ((lsk ++ [(⟨⟨lck, lzk, ltk, lpk⟩, pok, pnk, pck⟩ : Lc)]).map (·.l), true) := by
            unfold setStep
            rw [if_neg hs, if_neg hA]
            simp
          exact ⟨y.ln - (k + 1), by omega, k + 1, (lsk ++ [(⟨⟨lck, lzk, ltk, lpk⟩, pok, pnk, pck⟩ : Lc)]), (some ⟨g1W20, 0, none⟩), (un + 1), d1W20, true, rfl, by omega, f.sub ⟨rfl, rfl, rfl, rfl, rfl, rfl, rfl, rfl, rfl, trivial⟩, B0, rb1, rb4, rb7, ow1W20, hsl, by omega, by rw [setFold_succ x _ k (by omega) hka, hF, hst], hm1W20⟩
        clear f A; intro c16 A f
        refine l_do f rfl rfl rfl (y_pick rfl rfl rfl) ?_; clear f A; intro A f
        refine l_do f rfl rfl rfl (y_move rfl rfl) ?_; clear f A; intro A f
        refine l_no f rfl rfl rfl ?_; clear f A; intro A f
        refine l_no f rfl rfl rfl ?_; clear f A; intro A f
        refine l_no f rfl rfl rfl ?_; clear f A; intro A f
        refine l_no f rfl rfl rfl ?_; clear f A; intro A f
        refine l_no f rfl rfl rfl ?_; clear f A; intro A f
        refine l_no f rfl rfl rfl ?_; clear f A; intro A f
        refine l_no f rfl rfl rfl ?_; clear f A; intro A f
        refine l_no f rfl rfl rfl ?_; clear f A; intro A f
        refine l_do f rfl rfl rfl (y_pick rfl rfl rfl) ?_; clear f A; intro A f
        refine wpList_nil ?_
        refine x_tn ?_
        refine x_condF f rfl ?_
        refine wp_skip ?_
        refine x_tn ?_
        refine sx_list ?_
        refine l_do f rfl rfl rfl (y_move rfl rfl) ?_; clear f A; intro A f
        refine l_do f rfl rfl rfl (y_field rfl rfl (fo rfl)) ?_; clear f A; intro A f
        refine l_do f rfl rfl rfl (y_load1 rfl rfl (ag rfl) (rowl (rowq rb1) rfl)) ?_; clear f A; intro A f
        refine l_do f rfl rfl rfl (y_move rfl rfl) ?_; clear f A; intro A f
        refine l_do f rfl rfl rfl (y_index rfl rfl (by first | rfl | assumption) rfl (es rfl) (by omega)) ?_; clear f A; intro A f
        refine l_do f rfl rfl rfl (y_loadN (vs := [_, _, _, _]) rfl rfl (ag rfl) rfl ⟨(St.q c0k B0), (St.q c1k B0), (St.q c2k B0), (St.q c3k B0), trivial⟩) ?_; clear f A; intro A f
        obtain ⟨gvW22, hgvW22⟩ : ∃ g, g = W14.heap.size := ⟨_, rfl⟩
        refine l_opR (R := fun v W => v = .slice (some ⟨gvW22, 0, none⟩) 1 1 ∧ Below W14.heap.size W14 W ∧ W.heap[gvW22]? = some (.cells #[.int .i64 lck, .int .i64 lzk, .int .i64 ltk, .slice pok pnk pck] 57 (0, 0))) f rfl rfl rfl ⟨_, _, bs_exec f rfl rfl (bs_listH _ _ _ _ _), by rw [hgvW22], (Below.refl _ _).alloc (Nat.le_refl _) _, by rw [hgvW22]; show (Array.push _ _)[_]? = _; rw [Array.getElem?_push, if_pos rfl]⟩ ?_
        clear f A
        rintro _ W22 ⟨rfl, hb23, rgvW22⟩ A f
        replace B0 := Below.next B0 hb23; replace rb1 := row_next rb1 hb23; replace rb4 := row_next rb4 hb23; replace rb7 := row_next rb7 hb23; replace ow := owns_below ow hb23 (Nat.le_refl _); replace hsl := Nat.le_trans hsl hb23.size
        refine l_opR (R := fun v W => ∃ g2 c2, v = .slice (some ⟨g2, 0, none⟩) (un + 1) c2 ∧ W.ownsRow s1 57 4 (.slice (some ⟨g2, 0, none⟩) (un + 1) c2) (un + 1) (c4 ((lsk ++ [(⟨⟨lck, lzk, ltk, lpk⟩, pok, pnk, pck⟩ : Lc)]).map Lc.q)) ∧ Below s1 W22 W) f rfl rfl rfl (by obtain ⟨g2, c2, W2, h1, h2, h3⟩ := appL_run W22 _ s1 uo un uc lsk (⟨⟨lck, lzk, ltk, lpk⟩, pok, pnk, pck⟩ : Lc) gvW22 ow (by omega) (by omega) rgvW22; exact ⟨_, W2, append_exec f rfl rfl rfl h1, g2, c2, rfl, h2, h3⟩) ?_
        clear f A
        rintro _ W24 ⟨g1W24, d1W24, rfl, ow1W24, hb25⟩ A f
        replace B0 := B0.trans (hb25.mono hw1)
        replace hsl := Nat.le_trans hsl hb25.size
        replace rb1 := below_row hb25 rb1 l1_b1
        replace rb4 := below_row hb25 rb4 l1_b4
        replace rb7 := below_row hb25 rb7 l1_b7
        have hm1W24 : ∀ l ∈ lsk ++ [(⟨⟨lck, lzk, ltk, lpk⟩, pok, pnk, pck⟩ : Lc)], l ∈ y.ls ∨ l = (⟨x, po, pn, pc⟩ : Lc) := fun l hl => by
          rcases List.mem_append.1 hl with h | h
          · exact hmm l h
          rw [List.mem_singleton] at h
          exact .inl (by rw [h]; exact hmk)
        refine l_do f rfl rfl rfl (y_assign rfl rfl) ?_; clear f A; intro A f
        refine wpList_nil ?_
        refine x_bn ?_
        refine x_tn ?_
        refine sx_list ?_
        refine l_do f rfl rfl rfl (y_move rfl rfl) ?_; clear f A; intro A f
        refine l_do f rfl rfl rfl (y_add rfl rfl rfl rfl (by omega)) ?_; clear f A; intro A f
        refine l_do f rfl rfl rfl (y_assign rfl rfl) ?_; clear f A; intro A f
        refine wpList_nil ?_
        refine x_tn ?_
        have hs : ¬ ((⟨lck, lzk, ltk, lpk⟩ : Ls).c = x.c ∧ (⟨lck, lzk, ltk, lpk⟩ : Ls).z = x.z ∧ (⟨lck, lzk, ltk, lpk⟩ : Ls).t = x.t) := fun h => c16 h.2.1
        have hA : ¬ ((lsk.map (·.l), true).2 = false ∧ aheadL x (⟨lck, lzk, ltk, lpk⟩ : Ls)) := fun h => (by cases h.1)
        have hst : setStep x (lsk.map (·.l), true) (⟨lck, lzk, ltk, lpk⟩ : Ls) = ((lsk ++ [(⟨⟨lck, lzk, ltk, lpk⟩, pok, pnk, pck⟩ : Lc)]).map (·.l), true) := by
          unfold setStep
          rw [if_neg hs, if_neg hA]
          simp
        exact ⟨y.ln - (k + 1), by omega, k + 1, (lsk ++ [(⟨⟨lck, lzk, ltk, lpk⟩, pok, pnk, pck⟩ : Lc)]), (some ⟨g1W24, 0, none⟩), (un + 1), d1W24, true, rfl, by omega, f.sub ⟨rfl, rfl, rfl, rfl, rfl, rfl, rfl, rfl, rfl, trivial⟩, B0, rb1, rb4, rb7, ow1W24, hsl, by omega, by rw [setFold_succ x _ k (by omega) hka, hF, hst], hm1W24⟩
      clear f A; intro c15 A f
      refine l_do f rfl rfl rfl (y_move rfl rfl) ?_; clear f A; intro A f
      refine l_no f rfl rfl rfl ?_; clear f A; intro A f
      refine l_no f rfl rfl rfl ?_; clear f A; intro A f
      refine l_no f rfl rfl rfl ?_; clear f A; intro A f
      refine l_no f rfl rfl rfl ?_; clear f A; intro A f
      refine l_no f rfl rfl rfl ?_; clear f A; intro A f
      refine l_no f rfl rfl rfl ?_; clear f A; intro A f
      refine l_no f rfl rfl rfl ?_; clear f A; intro A f
      refine l_no f rfl rfl rfl ?_; clear f A; intro A f
      refine l_do f rfl rfl rfl (y_pick rfl rfl rfl) ?_; clear f A; intro A f
      refine l_do f rfl rfl rfl (y_move rfl rfl) ?_; clear f A; intro A f
      refine l_no f rfl rfl rfl ?_; clear f A; intro A f
      refine l_no f rfl rfl rfl ?_; clear f A; intro A f
      refine l_no f rfl rfl rfl ?_; clear f A; intro A f
      refine l_no f rfl rfl rfl ?_; clear f A; intro A f
      refine l_no f rfl rfl rfl ?_; clear f A; intro A f
      refine l_no f rfl rfl rfl ?_; clear f A; intro A f
      refine l_no f rfl rfl rfl ?_; clear f A; intro A f
      refine l_no f rfl rfl rfl ?_; clear f A; intro A f
      refine l_do f rfl rfl rfl (y_pick rfl rfl rfl) ?_; clear f A; intro A f
      refine wpList_nil ?_
      refine x_tn ?_
      refine x_condF f rfl ?_
      refine wp_skip ?_
      refine x_tn ?_
      refine sx_list ?_
      refine l_do f rfl rfl rfl (y_move rfl rfl) ?_; clear f A; intro A f
      refine l_do f rfl rfl rfl (y_field rfl rfl (fo rfl)) ?_; clear f A; intro A f
      refine l_do f rfl rfl rfl (y_load1 rfl rfl (ag rfl) (rowl (rowq rb1) rfl)) ?_; clear f A; intro A f
      refine l_do f rfl rfl rfl (y_move rfl rfl) ?_; clear f A; intro A f
      refine l_do f rfl rfl rfl (y_index rfl rfl (by first | rfl | assumption) rfl (es rfl) (by omega)) ?_; clear f A; intro A f
      refine l_do f rfl rfl rfl (y_loadN (vs := [_, _, _, _]) rfl rfl (ag rfl) rfl ⟨(St.q c0k B0), (St.q c1k B0), (St.q c2k B0), (St.q c3k B0), trivial⟩) ?_; clear f A; intro A f
      obtain ⟨gvW26, hgvW26⟩ : ∃ g, g = W14.heap.size := ⟨_, rfl⟩
      refine l_opR (R := fun v W => v = .slice (some ⟨gvW26, 0, none⟩) 1 1 ∧ Below W14.heap.size W14 W ∧ W.heap[gvW26]? = some (.cells #[.int .i64 lck, .int .i64 lzk, .int .i64 ltk, .slice pok pnk pck] 57 (0, 0))) f rfl rfl rfl ⟨_, _, bs_exec f rfl rfl (bs_listH _ _ _ _ _), by rw [hgvW26], (Below.refl _ _).alloc (Nat.le_refl _) _, by rw [hgvW26]; show (Array.push _ _)[_]? = _; rw [Array.getElem?_push, if_pos rfl]⟩ ?_
      clear f A
      rintro _ W26 ⟨rfl, hb27, rgvW26⟩ A f
      replace B0 := Below.next B0 hb27; replace rb1 := row_next rb1 hb27; replace rb4 := row_next rb4 hb27; replace rb7 := row_next rb7 hb27; replace ow := owns_below ow hb27 (Nat.le_refl _); replace hsl := Nat.le_trans hsl hb27.size
      refine l_opR (R := fun v W => ∃ g2 c2, v = .slice (some ⟨g2, 0, none⟩) (un + 1) c2 ∧ W.ownsRow s1 57 4 (.slice (some ⟨g2, 0, none⟩) (un + 1) c2) (un + 1) (c4 ((lsk ++ [(⟨⟨lck, lzk, ltk, lpk⟩, pok, pnk, pck⟩ : Lc)]).map Lc.q)) ∧ Below s1 W26 W) f rfl rfl rfl (by obtain ⟨g2, c2, W2, h1, h2, h3⟩ := appL_run W26 _ s1 uo un uc lsk (⟨⟨lck, lzk, ltk, lpk⟩, pok, pnk, pck⟩ : Lc) gvW26 ow (by omega) (by omega) rgvW26; exact ⟨_, W2, append_exec f rfl rfl rfl h1, g2, c2, rfl, h2, h3⟩) ?_
      clear f A
      rintro _ W28 ⟨g1W28, d1W28, rfl, ow1W28, hb29⟩ A f
      replace B0 := B0.trans (hb29.mono hw1)
      replace hsl := Nat.le_trans hsl hb29.size
      replace rb1 := below_row hb29 rb1 l1_b1
      replace rb4 := below_row hb29 rb4 l1_b4
      replace rb7 := below_row hb29 rb7 l1_b7
      have hm1W28 : ∀ l ∈ lsk ++ [(⟨⟨lck, lzk, ltk, lpk⟩, pok, pnk, pck⟩ : Lc)], l ∈ y.ls ∨ l = (⟨x, po, pn, pc⟩ : Lc) := fun l hl => by
        rcases List.mem_append.1 hl with h | h
        · exact hmm l h
        rw [List.mem_singleton] at h
        exact .inl (by rw [h]; exact hmk)
      refine l_do f rfl rfl rfl (y_assign rfl rfl) ?_; clear f A; intro A f
      refine wpList_nil ?_
      refine x_bn ?_
      refine x_tn ?_
      refine sx_list ?_
      refine l_do f rfl rfl rfl (y_move rfl rfl) ?_; clear f A; intro A f
      refine l_do f rfl rfl rfl (y_add rfl rfl rfl rfl (by omega)) ?_; clear f A; intro A f
      refine l_do f rfl rfl rfl (y_assign rfl rfl) ?_; clear f A; intro A f
      refine wpList_nil ?_
      refine x_tn ?_
      have hs : ¬ ((⟨lck, lzk, ltk, lpk⟩ : Ls).c = x.c ∧ (⟨lck, lzk, ltk, lpk⟩ : Ls).z = x.z ∧ (⟨lck, lzk, ltk, lpk⟩ : Ls).t = x.t) := fun h => c15 h.1
      have hA : ¬ ((lsk.map (·.l), true).2 = false ∧ aheadL x (⟨lck, lzk, ltk, lpk⟩ : Ls)) := fun h => (by cases h.1)
      have hst : setStep x (lsk.map (·.l), true) (⟨lck, lzk, ltk, lpk⟩ : Ls) = ((lsk ++ [(⟨⟨lck, lzk, ltk, lpk⟩, pok, pnk, pck⟩ : Lc)]).map (·.l), true) := by
        unfold setStep
        rw [if_neg hs, if_neg hA]
        simp
      exact ⟨y.ln - (k + 1), by omega, k + 1, (lsk ++ [(⟨⟨lck, lzk, ltk, lpk⟩, pok, pnk, pck⟩ : Lc)]), (some ⟨g1W28, 0, none⟩), (un + 1), d1W28, true, rfl, by omega, f.sub ⟨rfl, rfl, rfl, rfl, rfl, rfl, rfl, rfl, rfl, trivial⟩, B0, rb1, rb4, rb7, ow1W28, hsl, by omega, by rw [setFold_succ x _ k (by omega) hka, hF, hst], hm1W28⟩
    clear f A; intro c12 A f
    obtain rfl : d = false := (by simpa using c12)
    refine q_do f rfl rfl rfl (y_not rfl rfl) ?_; clear f A; intro A f
    refine q_do f rfl rfl rfl (y_move rfl rfl) ?_; clear f A; intro A f
    refine q_do f rfl rfl rfl (y_loadN (vs := [_, _, _, _]) rfl rfl (ag rfl) rfl (rowls (rowq rb7) _ _ ⟨rfl, rfl, rfl, rfl, trivial⟩)) ?_; clear f A; intro A f
    refine q_do f rfl rfl rfl (y_field rfl rfl (fo rfl)) ?_; clear f A; intro A f
    refine q_do f rfl rfl rfl (y_load1 rfl rfl (ag rfl) (rowl (rowq rb1) rfl)) ?_; clear f A; intro A f
    refine q_do f rfl rfl rfl (y_move rfl rfl) ?_; clear f A; intro A f
    refine q_do f rfl rfl rfl (y_index rfl rfl (by first | rfl | assumption) rfl (es rfl) (by omega)) ?_; clear f A; intro A f
    refine q_do f rfl rfl rfl (y_loadN (vs := [_, _, _, _]) rfl rfl (ag rfl) rfl ⟨(St.q c0k B0), (St.q c1k B0), (St.q c2k B0), (St.q c3k B0), trivial⟩) ?_; clear f A; intro A f
    refine q_callif _ f rfl rfl rfl (IsCall.mk' (cap := []) rfl rfl rfl) (pl rfl) (c_cl (fun wx => ahead_c x ⟨lck, lzk, ltk, lpk⟩ _ _ wx)) ?_ ?_
    · clear f A; intro c30 A f
      refine q_do f rfl rfl rfl (y_pick rfl rfl rfl) ?_; clear f A; intro A f
      refine wpQuiet_nil ?_; intro W32 hb31; replace B0 := Below.next B0 hb31; replace rb1 := row_next rb1 hb31; replace rb4 := row_next rb4 hb31; replace rb7 := row_next rb7 hb31; replace ow := owns_below ow hb31 (Nat.le_refl _); replace hsl := Nat.le_trans hsl hb31.size
      refine x_tn ?_
      refine x_condT f rfl ?_
      refine wp_seq ?_
      refine sx_list ?_
      refine l_do f rfl rfl rfl (y_move rfl rfl) ?_; clear f A; intro A f
      refine l_do f rfl rfl rfl (y_loadN (vs := [_, _, _, _]) rfl rfl (ag rfl) rfl (rowls (rowq rb7) _ _ ⟨rfl, rfl, rfl, rfl, trivial⟩)) ?_; clear f A; intro A f
      obtain ⟨gvW33, hgvW33⟩ : ∃ g, g = W32.heap.size := ⟨_, rfl⟩
      refine l_opR (R := fun v W => v = .slice (some ⟨gvW33, 0, none⟩) 1 1 ∧ Below W32.heap.size W32 W ∧ W.heap[gvW33]? = some (.cells #[.int .i64 x.c, .int .i64 x.z, .int .i64 x.t, .slice po pn pc] 57 (0, 0))) f rfl rfl rfl ⟨_, _, bs_exec f rfl rfl (bs_listH _ _ _ _ _), by rw [hgvW33], (Below.refl _ _).alloc (Nat.le_refl _) _, by rw [hgvW33]; show (Array.push _ _)[_]? = _; rw [Array.getElem?_push, if_pos rfl]⟩ ?_
      clear f A
      rintro _ W33 ⟨rfl, hb34, rgvW33⟩ A f
      replace B0 := Below.next B0 hb34; replace rb1 := row_next rb1 hb34; replace rb4 := row_next rb4 hb34; replace rb7 := row_next rb7 hb34; replace ow := owns_below ow hb34 (Nat.le_refl _); replace hsl := Nat.le_trans hsl hb34.size
      refine l_opR (R := fun v W => ∃ g2 c2, v = .slice (some ⟨g2, 0, none⟩) (un + 1) c2 ∧ W.ownsRow s1 57 4 (.slice (some ⟨g2, 0, none⟩) (un + 1) c2) (un + 1) (c4 ((lsk ++ [(⟨x, po, pn, pc⟩ : Lc)]).map Lc.q)) ∧ Below s1 W33 W) f rfl rfl rfl (by obtain ⟨g2, c2, W2, h1, h2, h3⟩ := appL_run W33 _ s1 uo un uc lsk (⟨x, po, pn, pc⟩ : Lc) gvW33 ow (by omega) (by omega) rgvW33; exact ⟨_, W2, append_exec f rfl rfl rfl h1, g2, c2, rfl, h2, h3⟩) ?_
      clear f A
      rintro _ W35 ⟨g1W35, d1W35, rfl, ow1W35, hb36⟩ A f
      replace B0 := B0.trans (hb36.mono hw1)
      replace hsl := Nat.le_trans hsl hb36.size
      replace rb1 := below_row hb36 rb1 l1_b1
      replace rb4 := below_row hb36 rb4 l1_b4
      replace rb7 := below_row hb36 rb7 l1_b7
      have hm1W35 : ∀ l ∈ lsk ++ [(⟨x, po, pn, pc⟩ : Lc)], l ∈ y.ls ∨ l = (⟨x, po, pn, pc⟩ : Lc) := fun l hl => by
        rcases List.mem_append.1 hl with h | h
        · exact hmm l h
        rw [List.mem_singleton] at h
        exact .inr h
      refine l_do f rfl rfl rfl (y_assign rfl rfl) ?_; clear f A; intro A f
      refine wpList_nil ?_
      refine x_tn ?_
      refine sx_list ?_
      refine l_do f rfl rfl rfl (y_assign rfl rfl) ?_; clear f A; intro A f
      refine wpList_nil ?_
      refine x_tn ?_
      refine wp_seq ?_
      refine wp_seq ?_
      refine sx_list ?_
      refine l_do f rfl rfl rfl (y_field rfl rfl (fo rfl)) ?_; clear f A; intro A f
      refine l_do f rfl rfl rfl (y_load1 rfl rfl (ag rfl) (rowl (rowq rb1) rfl)) ?_; clear f A; intro A f
      refine l_do f rfl rfl rfl (y_move rfl rfl) ?_; clear f A; intro A f
      refine l_do f rfl rfl rfl (y_index rfl rfl (by first | rfl | assumption) rfl (es rfl) (by omega)) ?_; clear f A; intro A f
      refine l_do f rfl rfl rfl (y_field rfl rfl (fo rfl)) ?_; clear f A; intro A f
      refine l_do f rfl rfl rfl (y_load1 rfl rfl (ag rfl) (St.q c0k B0)) ?_; clear f A; intro A f
      refine l_do f rfl rfl rfl (y_move rfl rfl) ?_; clear f A; intro A f
      refine l_if _ f rfl rfl rfl (y_eql rfl rfl rfl) ?_ ?_
      · clear f A; intro c37 A f
        refine l_do f rfl rfl rfl (y_move rfl rfl) ?_; clear f A; intro A f
        refine l_do f rfl rfl rfl (y_field rfl rfl (fo rfl)) ?_; clear f A; intro A f
        refine l_do f rfl rfl rfl (y_load1 rfl rfl (ag rfl) (rowl (rowq rb1) rfl)) ?_; clear f A; intro A f
        refine l_do f rfl rfl rfl (y_move rfl rfl) ?_; clear f A; intro A f
        refine l_do f rfl rfl rfl (y_index rfl rfl (by first | rfl | assumption) rfl (es rfl) (by omega)) ?_; clear f A; intro A f
        refine l_do f rfl rfl rfl (y_field rfl rfl (fo rfl)) ?_; clear f A; intro A f
        refine l_do f rfl rfl rfl (y_load1 rfl rfl (ag rfl) (St.q c1k B0)) ?_; clear f A; intro A f
        refine l_do f rfl rfl rfl (y_move rfl rfl) ?_; clear f A; intro A f
        refine l_if _ f rfl rfl rfl (y_eql rfl rfl rfl) ?_ ?_
        · clear f A; intro c38 A f
          refine l_do f rfl rfl rfl (y_pick rfl rfl rfl) ?_; clear f A; intro A f
          refine l_do f rfl rfl rfl (y_move rfl rfl) ?_; clear f A; intro A f
          refine l_do f rfl rfl rfl (y_field rfl rfl (fo rfl)) ?_; clear f A; intro A f
          refine l_do f rfl rfl rfl (y_load1 rfl rfl (ag rfl) (rowl (rowq rb1) rfl)) ?_; clear f A; intro A f
          refine l_do f rfl rfl rfl (y_move rfl rfl) ?_; clear f A; intro A f
          refine l_do f rfl rfl rfl (y_index rfl rfl (by first | rfl | assumption) rfl (es rfl) (by omega)) ?_; clear f A; intro A f
          refine l_do f rfl rfl rfl (y_field rfl rfl (fo rfl)) ?_; clear f A; intro A f
          refine l_do f rfl rfl rfl (y_load1 rfl rfl (ag rfl) (St.q c2k B0)) ?_; clear f A; intro A f
          refine l_do f rfl rfl rfl (y_move rfl rfl) ?_; clear f A; intro A f
          refine l_if _ f rfl rfl rfl (y_eql rfl rfl rfl) ?_ ?_
          · clear f A; intro c39 A f
            refine l_do f rfl rfl rfl (y_pick rfl rfl rfl) ?_; clear f A; intro A f
            refine wpList_nil ?_
            refine x_tn ?_
            refine x_condT f rfl ?_
            refine wp_seq ?_
            refine wp_seq ?_
            refine sx_list ?_
            refine l_do f rfl rfl rfl (y_move rfl rfl) ?_; clear f A; intro A f
            refine l_do f rfl rfl rfl (y_not rfl rfl) ?_; clear f A; intro A f
            refine wpList_nil ?_
            refine x_tn ?_
            refine x_condF f rfl ?_
            refine wp_skip ?_
            refine x_tn ?_
            refine wp_exit ?_
            refine x_te ?_
            refine x_bh ?_
            refine x_tn ?_
            refine sx_list ?_
            refine l_do f rfl rfl rfl (y_move rfl rfl) ?_; clear f A; intro A f
            refine l_do f rfl rfl rfl (y_add rfl rfl rfl rfl (by omega)) ?_; clear f A; intro A f
            refine l_do f rfl rfl rfl (y_assign rfl rfl) ?_; clear f A; intro A f
            refine wpList_nil ?_
            refine x_tn ?_
            have hs : (⟨lck, lzk, ltk, lpk⟩ : Ls).c = x.c ∧ (⟨lck, lzk, ltk, lpk⟩ : Ls).z = x.z ∧ (⟨lck, lzk, ltk, lpk⟩ : Ls).t = x.t := ⟨c37, c38, c39⟩
            exfalso
            have h1 := c30
            unfold aheadL at h1
            dsimp only at h1 hs
            omega
          clear f A; intro c39 A f
          refine l_do f rfl rfl rfl (y_pick rfl rfl rfl) ?_; clear f A; intro A f
          refine wpList_nil ?_
          refine x_tn ?_
          refine x_condF f rfl ?_
          refine wp_skip ?_
          refine x_tn ?_
          refine sx_list ?_
          refine l_do f rfl rfl rfl (y_move rfl rfl) ?_; clear f A; intro A f
          refine l_do f rfl rfl rfl (y_field rfl rfl (fo rfl)) ?_; clear f A; intro A f
          refine l_do f rfl rfl rfl (y_load1 rfl rfl (ag rfl) (rowl (rowq rb1) rfl)) ?_; clear f A; intro A f
          refine l_do f rfl rfl rfl (y_move rfl rfl) ?_; clear f A; intro A f
          refine l_do f rfl rfl rfl (y_index rfl rfl (by first | rfl | assumption) rfl (es rfl) (by omega)) ?_; clear f A; intro A f
          refine l_do f rfl rfl rfl (y_loadN (vs := [_, _, _, _]) rfl rfl (ag rfl) rfl ⟨(St.q c0k B0), (St.q c1k B0), (St.q c2k B0), (St.q c3k B0), trivial⟩) ?_; clear f A; intro A f
          obtain ⟨gvW40, hgvW40⟩ : ∃ g, g = W35.heap.size := ⟨_, rfl⟩
          refine l_opR (R := fun v W => v = .slice (some ⟨gvW40, 0, none⟩) 1 1 ∧ Below W35.heap.size W35 W ∧ W.heap[gvW40]? = some (.cells #[.int .i64 lck, .int .i64 lzk, .int .i64 ltk, .slice pok pnk pck] 57 (0, 0))) f rfl rfl rfl ⟨_, _, bs_exec f rfl rfl (bs_listH _ _ _ _ _), by rw [hgvW40], (Below.refl _ _).alloc (Nat.le_refl _) _, by rw [hgvW40]; show (Array.push _ _)[_]? = _; rw [Array.getElem?_push, if_pos rfl]⟩ ?_
          clear f A
          rintro _ W40 ⟨rfl, hb41, rgvW40⟩ A f
          replace B0 := Below.next B0 hb41; replace rb1 := row_next rb1 hb41; replace rb4 := row_next rb4 hb41; replace rb7 := row_next rb7 hb41; replace ow1W35 := owns_below ow1W35 hb41 (Nat.le_refl _); replace hsl := Nat.le_trans hsl hb41.size
          refine l_opR (R := fun v W => ∃ g2 c2, v = .slice (some ⟨g2, 0, none⟩) ((un + 1) + 1) c2 ∧ W.ownsRow s1 57 4 (.slice (some ⟨g2, 0, none⟩) ((un + 1) + 1) c2) ((un + 1) + 1) (c4 (((lsk ++ [(⟨x, po, pn, pc⟩ : Lc)]) ++ [(⟨⟨lck, lzk, ltk, lpk⟩, pok, pnk, pck⟩ : Lc)]).map Lc.q)) ∧ Below s1 W40 W) f rfl rfl rfl (by obtain ⟨g2, c2, W2, h1, h2, h3⟩ := appL_run W40 _ s1 (some ⟨g1W35, 0, none⟩) (un + 1) d1W35 (lsk ++ [(⟨x, po, pn, pc⟩ : Lc)]) (⟨⟨lck, lzk, ltk, lpk⟩, pok, pnk, pck⟩ : Lc) gvW40 ow1W35 (by omega) (by omega) rgvW40; exact ⟨_, W2, append_exec f rfl rfl rfl h1, g2, c2, rfl, h2, h3⟩) ?_
          clear f A
          rintro _ W42 ⟨g2W42, d2W42, rfl, ow2W42, hb43⟩ A f
          replace B0 := B0.trans (hb43.mono hw1)
          replace hsl := Nat.le_trans hsl hb43.size
          replace rb1 := below_row hb43 rb1 l1_b1
          replace rb4 := below_row hb43 rb4 l1_b4
          replace rb7 := below_row hb43 rb7 l1_b7
          have hm2W42 : ∀ l ∈ (lsk ++ [(⟨x, po, pn, pc⟩ : Lc)]) ++ [(⟨⟨lck, lzk, ltk, lpk⟩, pok, pnk, pck⟩ : Lc)], l ∈ y.ls ∨ l = (⟨x, po, pn, pc⟩ : Lc) := fun l hl => by
            rcases List.mem_append.1 hl with h | h
            · exact hm1W35 l h
            rw [List.mem_singleton] at h
            exact .inl (by rw [h]; exact hmk)
          refine l_do f rfl rfl rfl (y_assign rfl rfl) ?_; clear f A; intro A f
          refine wpList_nil ?_
          refine x_bn ?_
          refine x_tn ?_
          refine sx_list ?_
          refine l_do f rfl rfl rfl (y_move rfl rfl) ?_; clear f A; intro A f
          refine l_do f rfl rfl rfl (y_add rfl rfl rfl rfl (by omega)) ?_; clear f A; intro A f
          refine l_do f rfl rfl rfl (y_assign rfl rfl) ?_; clear f A; intro A f
          refine wpList_nil ?_
          refine x_tn ?_
          have hs : ¬ ((⟨lck, lzk, ltk, lpk⟩ : Ls).c = x.c ∧ (⟨lck, lzk, ltk, lpk⟩ : Ls).z = x.z ∧ (⟨lck, lzk, ltk, lpk⟩ : Ls).t = x.t) := fun h => c39 h.2.2
          have hA : (lsk.map (·.l), false).2 = false ∧ aheadL x (⟨lck, lzk, ltk, lpk⟩ : Ls) := ⟨rfl, c30⟩
          have hst : setStep x (lsk.map (·.l), false) (⟨lck, lzk, ltk, lpk⟩ : Ls) = (((lsk ++ [(⟨x, po, pn, pc⟩ : Lc)]) ++ [(⟨⟨lck, lzk, ltk, lpk⟩, pok, pnk, pck⟩ : Lc)]).map (·.l), true) := by
            unfold setStep
            rw [if_neg hs, if_pos hA]
            simp
          exact ⟨y.ln - (k + 1), by omega, k + 1, ((lsk ++ [(⟨x, po, pn, pc⟩ : Lc)]) ++ [(⟨⟨lck, lzk, ltk, lpk⟩, pok, pnk, pck⟩ : Lc)]), (some ⟨g2W42, 0, none⟩), ((un + 1) + 1), d2W42, true, rfl, by omega, f.sub ⟨rfl, rfl, rfl, rfl, rfl, rfl, rfl, rfl, rfl, trivial⟩, B0, rb1, rb4, rb7, ow2W42, hsl, by omega, by rw [setFold_succ x _ k (by omega) hka, hF, hst], hm2W42⟩
        clear f A; intro c38 A f
        refine l_do f rfl rfl rfl (y_pick rfl rfl rfl) ?_; clear f A; intro A f
        refine l_do f rfl rfl rfl (y_move rfl rfl) ?_; clear f A; intro A f
        refine l_no f rfl rfl rfl ?_; clear f A; intro A f
        refine l_no f rfl rfl rfl ?_; clear f A; intro A f
        refine l_no f rfl rfl rfl ?_; clear f A; intro A f
        refine l_no f rfl rfl rfl ?_; clear f A; intro A f
        refine l_no f rfl rfl rfl ?_; clear f A; intro A f
        refine l_no f rfl rfl rfl ?_; clear f A; intro A f
        refine l_no f rfl rfl rfl ?_; clear f A; intro A f
        refine l_no f rfl rfl rfl ?_; clear f A; intro A f
        refine l_do f rfl rfl rfl (y_pick rfl rfl rfl) ?_; clear f A; intro A f
        refine wpList_nil ?_
        refine x_tn ?_
        refine x_condF f rfl ?_
        refine wp_skip ?_
        refine x_tn ?_
        refine sx_list ?_
        refine l_do f rfl rfl rfl (y_move rfl rfl) ?_; clear f A; intro A f
        refine l_do f rfl rfl rfl (y_field rfl rfl (fo rfl)) ?_; clear f A; intro A f
        refine l_do f rfl rfl rfl (y_load1 rfl rfl (ag rfl) (rowl (rowq rb1) rfl)) ?_; clear f A; intro A f
        refine l_do f rfl rfl rfl (y_move rfl rfl) ?_; clear f A; intro A f
        refine l_do f rfl rfl rfl (y_index rfl rfl (by first | rfl | assumption) rfl (es rfl) (by omega)) ?_; clear f A; intro A f
        refine l_do f rfl rfl rfl (y_loadN (vs := [_, _, _, _]) rfl rfl (ag rfl) rfl ⟨(St.q c0k B0), (St.q c1k B0), (St.q c2k B0), (St.q c3k B0), trivial⟩) ?_; clear f A; intro A f
        obtain ⟨gvW44, hgvW44⟩ : ∃ g, g = W35.heap.size := ⟨_, rfl⟩
        refine l_opR (R := fun v W => v = .slice (some ⟨gvW44, 0, none⟩) 1 1 ∧ Below W35.heap.size W35 W ∧ W.heap[gvW44]? = some (.cells #[.int .i64 lck, .int .i64 lzk, .int .i64 ltk, .slice pok pnk pck] 57 (0, 0))) f rfl rfl rfl ⟨_, _, bs_exec f rfl rfl (bs_listH _ _ _ _ _), by rw [hgvW44], (Below.refl _ _).alloc (Nat.le_refl _) _, by rw [hgvW44]; show (Array.push _ _)[_]? = _; rw [Array.getElem?_push, if_pos rfl]⟩ ?_
        clear f A
        rintro _ W44 ⟨rfl, hb45, rgvW44⟩ A f
        replace B0 := Below.next B0 hb45; replace rb1 := row_next rb1 hb45; replace rb4 := row_next rb4 hb45; replace rb7 := row_next rb7 hb45; replace ow1W35 := owns_below ow1W35 hb45 (Nat.le_refl _); replace hsl := Nat.le_trans hsl hb45.size
        refine l_opR (R := fun v W => ∃ g2 c2, v = .slice (some ⟨g2, 0, none⟩) ((un + 1) + 1) c2 ∧ W.ownsRow s1 57 4 (.slice (some ⟨g2, 0, none⟩) ((un + 1) + 1) c2) ((un + 1) + 1) (c4 (((lsk ++ [(⟨x, po, pn, pc⟩ : Lc)]) ++ [(⟨⟨lck, lzk, ltk, lpk⟩, pok, pnk, pck⟩ : Lc)]).map Lc.q)) ∧ Below s1 W44 W) f rfl rfl rfl (by obtain ⟨g2, c2, W2, h1, h2, h3⟩ := appL_run W44 _ s1 (some ⟨g1W35, 0, none⟩) (un + 1) d1W35 (lsk ++ [(⟨x, po, pn, pc⟩ : Lc)]) (⟨⟨lck, lzk, ltk, lpk⟩, pok, pnk, pck⟩ : Lc) gvW44 ow1W35 (by omega) (by omega) rgvW44; exact ⟨_, W2, append_exec f rfl rfl rfl h1, g2, c2, rfl, h2, h3⟩) ?_
        clear f A
        rintro _ W46 ⟨g2W46, d2W46, rfl, ow2W46, hb47⟩ A f
        replace B0 := B0.trans (hb47.mono hw1)
        replace hsl := Nat.le_trans hsl hb47.size
        replace rb1 := below_row hb47 rb1 l1_b1
        replace rb4 := below_row hb47 rb4 l1_b4
        replace rb7 := below_row hb47 rb7 l1_b7
        have hm2W46 : ∀ l ∈ (lsk ++ [(⟨x, po, pn, pc⟩ : Lc)]) ++ [(⟨⟨lck, lzk, ltk, lpk⟩, pok, pnk, pck⟩ : Lc)], l ∈ y.ls ∨ l = (⟨x, po, pn, pc⟩ : Lc) := fun l hl => by
          rcases List.mem_append.1 hl with h | h
          · exact hm1W35 l h
          rw [List.mem_singleton] at h
          exact .inl (by rw [h]; exact hmk)
        refine l_do f rfl rfl rfl (y_assign rfl rfl) ?_; clear f A; intro A f
        refine wpList_nil ?_
        refine x_bn ?_
        refine x_tn ?_
        refine sx_list ?_
        refine l_do f rfl rfl rfl (y_move rfl rfl) ?_; clear f A; intro A f
        refine l_do f rfl rfl rfl (y_add rfl rfl rfl rfl (by omega)) ?_; clear f A; intro A f
        refine l_do f rfl rfl rfl (y_assign rfl rfl) ?_; clear f A; intro A f
        refine wpList_nil ?_
        refine x_tn ?_
        have hs : ¬ ((⟨lck, lzk, ltk, lpk⟩ : Ls).c = x.c ∧ (⟨lck, lzk, ltk, lpk⟩ : Ls).z = x.z ∧ (⟨lck, lzk, ltk, lpk⟩ : Ls).t = x.t) := fun h => c38 h.2.1
        have hA : (lsk.map (·.l), false).2 = false ∧ aheadL x (⟨lck, lzk, ltk, lpk⟩ : Ls) := ⟨rfl, c30⟩
        have hst : setStep x (lsk.map (·.l), false) (⟨lck, lzk, ltk, lpk⟩ : Ls) = (((lsk ++ [(⟨x, po, pn, pc⟩ : Lc)]) ++ [(⟨⟨lck, lzk, ltk, lpk⟩, pok, pnk, pck⟩ : Lc)]).map (·.l), true) := by
          unfold setStep
          rw [if_neg hs, if_pos hA]
          simp
        exact ⟨y.ln - (k + 1), by omega, k + 1, ((lsk ++ [(⟨x, po, pn, pc⟩ : Lc)]) ++ [(⟨⟨lck, lzk, ltk, lpk⟩, pok, pnk, pck⟩ : Lc)]), (some ⟨g2W46, 0, none⟩), ((un + 1) + 1), d2W46, true, rfl, by omega, f.sub ⟨rfl, rfl, rfl, rfl, rfl, rfl, rfl, rfl, rfl, trivial⟩, B0, rb1, rb4, rb7, ow2W46, hsl, by omega, by rw [setFold_succ x _ k (by omega) hka, hF, hst], hm2W46⟩
      clear f A; intro c37 A f
      refine l_do f rfl rfl rfl (y_move rfl rfl) ?_; clear f A; intro A f
      refine l_no f rfl rfl rfl ?_; clear f A; intro A f
      refine l_no f rfl rfl rfl ?_; clear f A; intro A f
      refine l_no f rfl rfl rfl ?_; clear f A; intro A f
      refine l_no f rfl rfl rfl ?_; clear f A; intro A f
      refine l_no f rfl rfl rfl ?_; clear f A; intro A f
      refine l_no f rfl rfl rfl ?_; clear f A; intro A f
      refine l_no f rfl rfl rfl ?_; clear f A; intro A f
      refine l_no f rfl rfl rfl ?_; clear f A; intro A f
      refine l_do f rfl rfl rfl (y_pick rfl rfl rfl) ?_; clear f A; intro A f
      refine l_do f rfl rfl rfl (y_move rfl rfl) ?_; clear f A; intro A f
      refine l_no f rfl rfl rfl ?_; clear f A; intro A f
      refine l_no f rfl rfl rfl ?_; clear f A; intro A f
      refine l_no f rfl rfl rfl ?_; clear f A; intro A f
      refine l_no f rfl rfl rfl ?_; clear f A; intro A f
      refine l_no f rfl rfl rfl ?_; clear f A; intro A f
      refine l_no f rfl rfl rfl ?_; clear f A; intro A f
      refine l_no f rfl rfl rfl ?_; clear f A; intro A f
      refine l_no f rfl rfl rfl ?_; clear f A; intro A f
      refine l_do f rfl rfl rfl (y_pick rfl rfl rfl) ?_; clear f A; intro A f
      refine wpList_nil ?_
      refine x_tn ?_
      refine x_condF f rfl ?_
      refine wp_skip ?_
      refine x_tn ?_
      refine sx_list ?_
      refine l_do f rfl rfl rfl (y_move rfl rfl) ?_; clear f A; intro A f
      refine l_do f rfl rfl rfl (y_field rfl rfl (fo rfl)) ?_; clear f A; intro A f
      refine l_do f rfl rfl rfl (y_load1 rfl rfl (ag rfl) (rowl (rowq rb1) rfl)) ?_; clear f A; intro A f
      refine l_do f rfl rfl rfl (y_move rfl rfl) ?_; clear f A; intro A f
      refine l_do f rfl rfl rfl (y_index rfl rfl (by first | rfl | assumption) rfl (es rfl) (by omega)) ?_; clear f A; intro A f
      refine l_do f rfl rfl rfl (y_loadN (vs := [_, _, _, _]) rfl rfl (ag rfl) rfl ⟨(St.q c0k B0), (St.q c1k B0), (St.q c2k B0), (St.q c3k B0), trivial⟩) ?_; clear f A; intro A f
      obtain ⟨gvW48, hgvW48⟩ : ∃ g, g = W35.heap.size := ⟨_, rfl⟩
      refine l_opR (R := fun v W => v = .slice (some ⟨gvW48, 0, none⟩) 1 1 ∧ Below W35.heap.size W35 W ∧ W.heap[gvW48]? = some (.cells #[.int .i64 lck, .int .i64 lzk, .int .i64 ltk, .slice pok pnk pck] 57 (0, 0))) f rfl rfl rfl ⟨_, _, bs_exec f rfl rfl (bs_listH _ _ _ _ _), by rw [hgvW48], (Below.refl _ _).alloc (Nat.le_refl _) _, by rw [hgvW48]; show (Array.push _ _)[_]? = _; rw [Array.getElem?_push, if_pos rfl]⟩ ?_
      clear f A
      rintro _ W48 ⟨rfl, hb49, rgvW48⟩ A f
      replace B0 := Below.next B0 hb49; replace rb1 := row_next rb1 hb49; replace rb4 := row_next rb4 hb49; replace rb7 := row_next rb7 hb49; replace ow1W35 := owns_below ow1W35 hb49 (Nat.le_refl _); replace hsl := Nat.le_trans hsl hb49.size
      refine l_opR (R := fun v W => ∃ g2 c2, v = .slice (some ⟨g2, 0, none⟩) ((un + 1) + 1) c2 ∧ W.ownsRow s1 57 4 (.slice (some ⟨g2, 0, none⟩) ((un + 1) + 1) c2) ((un + 1) + 1) (c4 (((lsk ++ [(⟨x, po, pn, pc⟩ : Lc)]) ++ [(⟨⟨lck, lzk, ltk, lpk⟩, pok, pnk, pck⟩ : Lc)]).map Lc.q)) ∧ Below s1 W48 W) f rfl rfl rfl (by obtain ⟨g2, c2, W2, h1, h2, h3⟩ := appL_run W48 _ s1 (some ⟨g1W35, 0, none⟩) (un + 1) d1W35 (lsk ++ [(⟨x, po, pn, pc⟩ : Lc)]) (⟨⟨lck, lzk, ltk, lpk⟩, pok, pnk, pck⟩ : Lc) gvW48 ow1W35 (by omega) (by omega) rgvW48; exact ⟨_, W2, append_exec f rfl rfl rfl h1, g2, c2, rfl, h2, h3⟩) ?_
      clear f A
      rintro _ W50 ⟨g2W50, d2W50, rfl, ow2W50, hb51⟩ A f
      replace B0 := B0.trans (hb51.mono hw1)
      replace hsl := Nat.le_trans hsl hb51.size
      replace rb1 := below_row hb51 rb1 l1_b1
      replace rb4 := below_row hb51 rb4 l1_b4
      replace rb7 := below_row hb51 rb7 l1_b7
      have hm2W50 : ∀ l ∈ (lsk ++ [(⟨x, po, pn, pc⟩ : Lc)]) ++ [(⟨⟨lck, lzk, ltk, lpk⟩, pok, pnk, pck⟩ : Lc)], l ∈ y.ls ∨ l = (⟨x, po, pn, pc⟩ : Lc) := fun l hl => by
        rcases List.mem_append.1 hl with h | h
        · exact hm1W35 l h
        rw [List.mem_singleton] at h
        exact .inl (by rw [h]; exact hmk)
      refine l_do f rfl rfl rfl (y_assign rfl rfl) ?_; clear f A; intro A f
      refine wpList_nil ?_
      refine x_bn ?_
      refine x_tn ?_
      refine sx_list ?_
      refine l_do f rfl rfl rfl (y_move rfl rfl) ?_; clear f A; intro A f
      refine l_do f rfl rfl rfl (y_add rfl rfl rfl rfl (by omega)) ?_; clear f A; intro A f
      refine l_do f rfl rfl rfl (y_assign rfl rfl) ?_; clear f A; intro A f
      refine wpList_nil ?_
      refine x_tn ?_
      have hs : ¬ ((⟨lck, lzk, ltk, lpk⟩ : Ls).c = x.c ∧ (⟨lck, lzk, ltk, lpk⟩ : Ls).z = x.z ∧ (⟨lck, lzk, ltk, lpk⟩ : Ls).t = x.t) := fun h => c37 h.1
      have hA : (lsk.map (·.l), false).2 = false ∧ aheadL x (⟨lck, lzk, ltk, lpk⟩ : Ls) := ⟨rfl, c30⟩
      have hst : setStep x (lsk.map (·.l), false) (⟨lck, lzk, ltk, lpk⟩ : Ls) = (((lsk ++ [(⟨x, po, pn, pc⟩ : Lc)]) ++ [(⟨⟨lck, lzk, ltk, lpk⟩, pok, pnk, pck⟩ : Lc)]).map (·.l), true) := by
        unfold setStep
        rw [if_neg hs, if_pos hA]
        simp
      exact ⟨y.ln - (k + 1), by omega, k + 1, ((lsk ++ [(⟨x, po, pn, pc⟩ : Lc)]) ++ [(⟨⟨lck, lzk, ltk, lpk⟩, pok, pnk, pck⟩ : Lc)]), (some ⟨g2W50, 0, none⟩), ((un + 1) + 1), d2W50, true, rfl, by omega, f.sub ⟨rfl, rfl, rfl, rfl, rfl, rfl, rfl, rfl, rfl, trivial⟩, B0, rb1, rb4, rb7, ow2W50, hsl, by omega, by rw [setFold_succ x _ k (by omega) hka, hF, hst], hm2W50⟩
    clear f A; intro c30 A f
    refine q_do f rfl rfl rfl (y_pick rfl rfl rfl) ?_; clear f A; intro A f
    refine wpQuiet_nil ?_; intro W53 hb52; replace B0 := Below.next B0 hb52; replace rb1 := row_next rb1 hb52; replace rb4 := row_next rb4 hb52; replace rb7 := row_next rb7 hb52; replace ow := owns_below ow hb52 (Nat.le_refl _); replace hsl := Nat.le_trans hsl hb52.size
    refine x_tn ?_
    refine x_condF f rfl ?_
    refine wp_skip ?_
    refine x_tn ?_
    refine wp_seq ?_
    refine wp_seq ?_
    refine sx_list ?_
    refine l_do f rfl rfl rfl (y_field rfl rfl (fo rfl)) ?_; clear f A; intro A f
    refine l_do f rfl rfl rfl (y_load1 rfl rfl (ag rfl) (rowl (rowq rb1) rfl)) ?_; clear f A; intro A f
    refine l_do f rfl rfl rfl (y_move rfl rfl) ?_; clear f A; intro A f
    refine l_do f rfl rfl rfl (y_index rfl rfl (by first | rfl | assumption) rfl (es rfl) (by omega)) ?_; clear f A; intro A f
    refine l_do f rfl rfl rfl (y_field rfl rfl (fo rfl)) ?_; clear f A; intro A f
    refine l_do f rfl rfl rfl (y_load1 rfl rfl (ag rfl) (St.q c0k B0)) ?_; clear f A; intro A f
    refine l_do f rfl rfl rfl (y_move rfl rfl) ?_; clear f A; intro A f
    refine l_if _ f rfl rfl rfl (y_eql rfl rfl rfl) ?_ ?_
    · clear f A; intro c54 A f
      refine l_do f rfl rfl rfl (y_move rfl rfl) ?_; clear f A; intro A f
      refine l_do f rfl rfl rfl (y_field rfl rfl (fo rfl)) ?_; clear f A; intro A f
      refine l_do f rfl rfl rfl (y_load1 rfl rfl (ag rfl) (rowl (rowq rb1) rfl)) ?_; clear f A; intro A f
      refine l_do f rfl rfl rfl (y_move rfl rfl) ?_; clear f A; intro A f
      refine l_do f rfl rfl rfl (y_index rfl rfl (by first | rfl | assumption) rfl (es rfl) (by omega)) ?_; clear f A; intro A f
      refine l_do f rfl rfl rfl (y_field rfl rfl (fo rfl)) ?_; clear f A; intro A f
      refine l_do f rfl rfl rfl (y_load1 rfl rfl (ag rfl) (St.q c1k B0)) ?_; clear f A; intro A f
      refine l_do f rfl rfl rfl (y_move rfl rfl) ?_; clear f A; intro A f
      refine l_if _ f rfl rfl rfl (y_eql rfl rfl rfl) ?_ ?_
      · clear f A; intro c55 A f
        refine l_do f rfl rfl rfl (y_pick rfl rfl rfl) ?_; clear f A; intro A f
        refine l_do f rfl rfl rfl (y_move rfl rfl) ?_; clear f A; intro A f
        refine l_do f rfl rfl rfl (y_field rfl rfl (fo rfl)) ?_; clear f A; intro A f
        refine l_do f rfl rfl rfl (y_load1 rfl rfl (ag rfl) (rowl (rowq rb1) rfl)) ?_; clear f A; intro A f
        refine l_do f rfl rfl rfl (y_move rfl rfl) ?_; clear f A; intro A f
        refine l_do f rfl rfl rfl (y_index rfl rfl (by first | rfl | assumption) rfl (es rfl) (by omega)) ?_; clear f A; intro A f
        refine l_do f rfl rfl rfl (y_field rfl rfl (fo rfl)) ?_; clear f A; intro A f
        refine l_do f rfl rfl rfl (y_load1 rfl rfl (ag rfl) (St.q c2k B0)) ?_; clear f A; intro A f
        refine l_do f rfl rfl rfl (y_move rfl rfl) ?_; clear f A; intro A f
        refine l_if _ f rfl rfl rfl (y_eql rfl rfl rfl) ?_ ?_
        · clear f A; intro c56 A f
          refine l_do f rfl rfl rfl (y_pick rfl rfl rfl) ?_; clear f A; intro A f
          refine wpList_nil ?_
          refine x_tn ?_
          refine x_condT f rfl ?_
          refine wp_seq ?_
          refine wp_seq ?_
          refine sx_list ?_
          refine l_do f rfl rfl rfl (y_move rfl rfl) ?_; clear f A; intro A f
          refine l_do f rfl rfl rfl (y_not rfl rfl) ?_; clear f A; intro A f
          refine wpList_nil ?_
          refine x_tn ?_
          refine x_condT f rfl ?_
          refine wp_seq ?_
          refine sx_list ?_
          refine l_do f rfl rfl rfl (y_move rfl rfl) ?_; clear f A; intro A f
          refine l_do f rfl rfl rfl (y_loadN (vs := [_, _, _, _]) rfl rfl (ag rfl) rfl (rowls (rowq rb7) _ _ ⟨rfl, rfl, rfl, rfl, trivial⟩)) ?_; clear f A; intro A f
          obtain ⟨gvW57, hgvW57⟩ : ∃ g, g = W53.heap.size := ⟨_, rfl⟩
          refine l_opR (R := fun v W => v = .slice (some ⟨gvW57, 0, none⟩) 1 1 ∧ Below W53.heap.size W53 W ∧ W.heap[gvW57]? = some (.cells #[.int .i64 x.c, .int .i64 x.z, .int .i64 x.t, .slice po pn pc] 57 (0, 0))) f rfl rfl rfl ⟨_, _, bs_exec f rfl rfl (bs_listH _ _ _ _ _), by rw [hgvW57], (Below.refl _ _).alloc (Nat.le_refl _) _, by rw [hgvW57]; show (Array.push _ _)[_]? = _; rw [Array.getElem?_push, if_pos rfl]⟩ ?_
          clear f A
          rintro _ W57 ⟨rfl, hb58, rgvW57⟩ A f
          replace B0 := Below.next B0 hb58; replace rb1 := row_next rb1 hb58; replace rb4 := row_next rb4 hb58; replace rb7 := row_next rb7 hb58; replace ow := owns_below ow hb58 (Nat.le_refl _); replace hsl := Nat.le_trans hsl hb58.size
          refine l_opR (R := fun v W => ∃ g2 c2, v = .slice (some ⟨g2, 0, none⟩) (un + 1) c2 ∧ W.ownsRow s1 57 4 (.slice (some ⟨g2, 0, none⟩) (un + 1) c2) (un + 1) (c4 ((lsk ++ [(⟨x, po, pn, pc⟩ : Lc)]).map Lc.q)) ∧ Below s1 W57 W) f rfl rfl rfl (by obtain ⟨g2, c2, W2, h1, h2, h3⟩ := appL_run W57 _ s1 uo un uc lsk (⟨x, po, pn, pc⟩ : Lc) gvW57 ow (by omega) (by omega) rgvW57; exact ⟨_, W2, append_exec f rfl rfl rfl h1, g2, c2, rfl, h2, h3⟩) ?_
          clear f A
          rintro _ W59 ⟨g1W59, d1W59, rfl, ow1W59, hb60⟩ A f
          replace B0 := B0.trans (hb60.mono hw1)
          replace hsl := Nat.le_trans hsl hb60.size
          replace rb1 := below_row hb60 rb1 l1_b1
          replace rb4 := below_row hb60 rb4 l1_b4
          replace rb7 := below_row hb60 rb7 l1_b7
          have hm1W59 : ∀ l ∈ lsk ++ [(⟨x, po, pn, pc⟩ : Lc)], l ∈ y.ls ∨ l = (⟨x, po, pn, pc⟩ : Lc) := fun l hl => by
            rcases List.mem_append.1 hl with h | h
            · exact hmm l h
            rw [List.mem_singleton] at h
            exact .inr h
          refine l_do f rfl rfl rfl (y_assign rfl rfl) ?_; clear f A; intro A f
          refine wpList_nil ?_
          refine x_tn ?_
          refine sx_list ?_
          refine l_do f rfl rfl rfl (y_assign rfl rfl) ?_; clear f A; intro A f
          refine wpList_nil ?_
          refine x_tn ?_
          refine wp_exit ?_
          refine x_te ?_
          refine x_bh ?_
          refine x_tn ?_
          refine sx_list ?_
          refine l_do f rfl rfl rfl (y_move rfl rfl) ?_; clear f A; intro A f
          refine l_do f rfl rfl rfl (y_add rfl rfl rfl rfl (by omega)) ?_; clear f A; intro A f
          refine l_do f rfl rfl rfl (y_assign rfl rfl) ?_; clear f A; intro A f
          refine wpList_nil ?_
          refine x_tn ?_
          have hs : (⟨lck, lzk, ltk, lpk⟩ : Ls).c = x.c ∧ (⟨lck, lzk, ltk, lpk⟩ : Ls).z = x.z ∧ (⟨lck, lzk, ltk, lpk⟩ : Ls).t = x.t := ⟨c54, c55, c56⟩
          have hA : ¬ ((lsk.map (·.l), false).2 = false ∧ aheadL x (⟨lck, lzk, ltk, lpk⟩ : Ls)) := fun h => c30 h.2
          have hst : setStep x (lsk.map (·.l), false) (⟨lck, lzk, ltk, lpk⟩ : Ls) = ((lsk ++ [(⟨x, po, pn, pc⟩ : Lc)]).map (·.l), true) := by
            unfold setStep
            rw [if_pos hs, if_neg hA]
            simp
          exact ⟨y.ln - (k + 1), by omega, k + 1, (lsk ++ [(⟨x, po, pn, pc⟩ : Lc)]), (some ⟨g1W59, 0, none⟩), (un + 1), d1W59, true, rfl, by omega, f.sub ⟨rfl, rfl, rfl, rfl, rfl, rfl, rfl, rfl, rfl, trivial⟩, B0, rb1, rb4, rb7, ow1W59, hsl, by omega, by rw [setFold_succ x _ k (by omega) hka, hF, hst], hm1W59⟩
        clear f A; intro c56 A f
        refine l_do f rfl rfl rfl (y_pick rfl rfl rfl) ?_; clear f A; intro A f
        refine wpList_nil ?_
        refine x_tn ?_
        refine x_condF f rfl ?_
        refine wp_skip ?_
        refine x_tn ?_
        refine sx_list ?_
        refine l_do f rfl rfl rfl (y_move rfl rfl) ?_; clear f A; intro A f
        refine l_do f rfl rfl rfl (y_field rfl rfl (fo rfl)) ?_; clear f A; intro A f
        refine l_do f rfl rfl rfl (y_load1 rfl rfl (ag rfl) (rowl (rowq rb1) rfl)) ?_; clear f A; intro A f
        refine l_do f rfl rfl rfl (y_move rfl rfl) ?_; clear f A; intro A f
        refine l_do f rfl rfl rfl (y_index rfl rfl (by first | rfl | assumption) rfl (es rfl) (by omega)) ?_; clear f A; intro A f
        refine l_do f rfl rfl rfl (y_loadN (vs := [_, _, _, _]) rfl rfl (ag rfl) rfl ⟨(St.q c0k B0), (St.q c1k B0), (St.q c2k B0), (St.q c3k B0), trivial⟩) ?_; clear f A; intro A f
        obtain ⟨gvW61, hgvW61⟩ : ∃ g, g = W53.heap.size := ⟨_, rfl⟩
        refine l_opR (R := fun v W => v = .slice (some ⟨gvW61, 0, none⟩) 1 1 ∧ Below W53.heap.size W53 W ∧ W.heap[gvW61]? = some (.cells #[.int .i64 lck, .int .i64 lzk, .int .i64 ltk, .slice pok pnk pck] 57 (0, 0))) f rfl rfl rfl ⟨_, _, bs_exec f rfl rfl (bs_listH _ _ _ _ _), by rw [hgvW61], (Below.refl _ _).alloc (Nat.le_refl _) _, by rw [hgvW61]; show (Array.push _ _)[_]? = _; rw [Array.getElem?_push, if_pos rfl]⟩ ?_
        clear f A
        rintro _ W61 ⟨rfl, hb62, rgvW61⟩ A f
        replace B0 := Below.next B0 hb62; replace rb1 := row_next rb1 hb62; replace rb4 := row_next rb4 hb62; replace rb7 := row_next rb7 hb62; replace ow := owns_below ow hb62 (Nat.le_refl _); replace hsl := Nat.le_trans hsl hb62.size
        refine l_opR (R := fun v W => ∃ g2 c2, v = .slice (some ⟨g2, 0, none⟩) (un + 1) c2 ∧ W.ownsRow s1 57 4 (.slice (some ⟨g2, 0, none⟩) (un + 1) c2) (un + 1) (c4 ((lsk ++ [(⟨⟨lck, lzk, ltk, lpk⟩, pok, pnk, pck⟩ : Lc)]).map Lc.q)) ∧ Below s1 W61 W) f rfl rfl rfl (by obtain ⟨g2, c2, W2, h1, h2, h3⟩ := appL_run W61 _ s1 uo un uc lsk (⟨⟨lck, lzk, ltk, lpk⟩, pok, pnk, pck⟩ : Lc) gvW61 ow (by omega) (by omega) rgvW61; exact ⟨_, W2, append_exec f rfl rfl rfl h1, g2, c2, rfl, h2, h3⟩) ?_
        clear f A
        rintro _ W63 ⟨g1W63, d1W63, rfl, ow1W63, hb64⟩ A f
        replace B0 := B0.trans (hb64.mono hw1)
        replace hsl := Nat.le_trans hsl hb64.size
        replace rb1 := below_row hb64 rb1 l1_b1
        replace rb4 := below_row hb64 rb4 l1_b4
        replace rb7 := below_row hb64 rb7 l1_b7
        have hm1W63 : ∀ l ∈ lsk ++ [(⟨⟨lck, lzk, ltk, lpk⟩, pok, pnk, pck⟩ : Lc)], l ∈ y.ls ∨ l = (⟨x, po, pn, pc⟩ : Lc) := fun l hl => by
          rcases List.mem_append.1 hl with h | h
          · exact hmm l h
          rw [List.mem_singleton] at h
          exact .inl (by rw [h]; exact hmk)
        refine l_do f rfl rfl rfl (y_assign rfl rfl) ?_; clear f A; intro A f
        refine wpList_nil ?_
        refine x_bn ?_
        refine x_tn ?_
        refine sx_list ?_
        refine l_do f rfl rfl rfl (y_move rfl rfl) ?_; clear f A; intro A f
        refine l_do f rfl rfl rfl (y_add rfl rfl rfl rfl (by omega)) ?_; clear f A; intro A f
        refine l_do f rfl rfl rfl (y_assign rfl rfl) ?_; clear f A; intro A f
        refine wpList_nil ?_
        refine x_tn ?_
        have hs : ¬ ((⟨lck, lzk, ltk, lpk⟩ : Ls).c = x.c ∧ (⟨lck, lzk, ltk, lpk⟩ : Ls).z = x.z ∧ (⟨lck, lzk, ltk, lpk⟩ : Ls).t = x.t) := fun h => c56 h.2.2
        have hA : ¬ ((lsk.map (·.l), false).2 = false ∧ aheadL x (⟨lck, lzk, ltk, lpk⟩ : Ls)) := fun h => c30 h.2
        have hst : setStep x (lsk.map (·.l), false) (⟨lck, lzk, ltk, lpk⟩ : Ls) = ((lsk ++ [(⟨⟨lck, lzk, ltk, lpk⟩, pok, pnk, pck⟩ : Lc)]).map (·.l), false) := by
          unfold setStep
          rw [if_neg hs, if_neg hA]
          simp
        exact ⟨y.ln - (k + 1), by omega, k + 1, (lsk ++ [(⟨⟨lck, lzk, ltk, lpk⟩, pok, pnk, pck⟩ : Lc)]), (some ⟨g1W63, 0, none⟩), (un + 1), d1W63, false, rfl, by omega, f.sub ⟨rfl, rfl, rfl, rfl, rfl, rfl, rfl, rfl, rfl, trivial⟩, B0, rb1, rb4, rb7, ow1W63, hsl, by omega, by rw [setFold_succ x _ k (by omega) hka, hF, hst], hm1W63⟩
      clear f A; intro c55 A f
      refine l_do f rfl rfl rfl (y_pick rfl rfl rfl) ?_; clear f A; intro A f
      refine l_do f rfl rfl rfl (y_move rfl rfl) ?_; clear f A; intro A f
      refine l_no f rfl rfl rfl ?_; clear f A; intro A f
      refine l_no f rfl rfl rfl ?_; clear f A; intro A f
      refine l_no f rfl rfl rfl ?_; clear f A; intro A f
      refine l_no f rfl rfl rfl ?_; clear f A; intro A f
      refine l_no f rfl rfl rfl ?_; clear f A; intro A f
      refine l_no f rfl rfl rfl ?_; clear f A; intro A f
      refine l_no f rfl rfl rfl ?_; clear f A; intro A f
      refine l_no f rfl rfl rfl ?_; clear f A; intro A f
      refine l_do f rfl rfl rfl (y_pick rfl rfl rfl) ?_; clear f A; intro A f
      refine wpList_nil ?_
      refine x_tn ?_
      refine x_condF f rfl ?_
      refine wp_skip ?_
      refine x_tn ?_
      refine sx_list ?_
      refine l_do f rfl rfl rfl (y_move rfl rfl) ?_; clear f A; intro A f
      refine l_do f rfl rfl rfl (y_field rfl rfl (fo rfl)) ?_; clear f A; intro A f
      refine l_do f rfl rfl rfl (y_load1 rfl rfl (ag rfl) (rowl (rowq rb1) rfl)) ?_; clear f A; intro A f
      refine l_do f rfl rfl rfl (y_move rfl rfl) ?_; clear f A; intro A f
      refine l_do f rfl rfl rfl (y_index rfl rfl (by first | rfl | assumption) rfl (es rfl) (by omega)) ?_; clear f A; intro A f
      refine l_do f rfl rfl rfl (y_loadN (vs := [_, _, _, _]) rfl rfl (ag rfl) rfl ⟨(St.q c0k B0), (St.q c1k B0), (St.q c2k B0), (St.q c3k B0), trivial⟩) ?_; clear f A; intro A f
      obtain ⟨gvW65, hgvW65⟩ : ∃ g, g = W53.heap.size := ⟨_, rfl⟩
      refine l_opR (R := fun v W => v = .slice (some ⟨gvW65, 0, none⟩) 1 1 ∧ Below W53.heap.size W53 W ∧ W.heap[gvW65]? = some (.cells #[.int .i64 lck, .int .i64 lzk, .int .i64 ltk, .slice pok pnk pck] 57 (0, 0))) f rfl rfl rfl ⟨_, _, bs_exec f rfl rfl (bs_listH _ _ _ _ _), by rw [hgvW65], (Below.refl _ _).alloc (Nat.le_refl _) _, by rw [hgvW65]; show (Array.push _ _)[_]? = _; rw [Array.getElem?_push, if_pos rfl]⟩ ?_
      clear f A
      rintro _ W65 ⟨rfl, hb66, rgvW65⟩ A f
      replace B0 := Below.next B0 hb66; replace rb1 := row_next rb1 hb66; replace rb4 := row_next rb4 hb66; replace rb7 := row_next rb7 hb66; replace ow := owns_below ow hb66 (Nat.le_refl _); replace hsl := Nat.le_trans hsl hb66.size
      refine l_opR (R := fun v W => ∃ g2 c2, v = .slice (some ⟨g2, 0, none⟩) (un + 1) c2 ∧ W.ownsRow s1 57 4 (.slice (some ⟨g2, 0, none⟩) (un + 1) c2) (un + 1) (c4 ((lsk ++ [(⟨⟨lck, lzk, ltk, lpk⟩, pok, pnk, pck⟩ : Lc)]).map Lc.q)) ∧ Below s1 W65 W) f rfl rfl rfl (by obtain ⟨g2, c2, W2, h1, h2, h3⟩ := appL_run W65 _ s1 uo un uc lsk (⟨⟨lck, lzk, ltk, lpk⟩, pok, pnk, pck⟩ : Lc) gvW65 ow (by omega) (by omega) rgvW65; exact ⟨_, W2, append_exec f rfl rfl rfl h1, g2, c2, rfl, h2, h3⟩) ?_
      clear f A
      rintro _ W67 ⟨g1W67, d1W67, rfl, ow1W67, hb68⟩ A f
      replace B0 := B0.trans (hb68.mono hw1)
      replace hsl := Nat.le_trans hsl hb68.size
      replace rb1 := below_row hb68 rb1 l1_b1
      replace rb4 := below_row hb68 rb4 l1_b4
      replace rb7 := below_row hb68 rb7 l1_b7
      have hm1W67 : ∀ l ∈ lsk ++ [(⟨⟨lck, lzk, ltk, lpk⟩, pok, pnk, pck⟩ : Lc)], l ∈ y.ls ∨ l = (⟨x, po, pn, pc⟩ : Lc) := fun l hl => by
        rcases List.mem_append.1 hl with h | h
        · exact hmm l h
        rw [List.mem_singleton] at h
        exact .inl (by rw [h]; exact hmk)
      refine l_do f rfl rfl rfl (y_assign rfl rfl) ?_; clear f A; intro A f
      refine wpList_nil ?_
      refine x_bn ?_
      refine x_tn ?_
      refine sx_list ?_
      refine l_do f rfl rfl rfl (y_move rfl rfl) ?_; clear f A; intro A f
      refine l_do f rfl rfl rfl (y_add rfl rfl rfl rfl (by omega)) ?_; clear f A; intro A f
      refine l_do f rfl rfl rfl (y_assign rfl rfl) ?_; clear f A; intro A f
      refine wpList_nil ?_
      refine x_tn ?_
      have hs : ¬ ((⟨lck, lzk, ltk, lpk⟩ : Ls).c = x.c ∧ (⟨lck, lzk, ltk, lpk⟩ : Ls).z = x.z ∧ (⟨lck, lzk, ltk, lpk⟩ : Ls).t = x.t) := fun h => c55 h.2.1
      have hA : ¬ ((lsk.map (·.l), false).2 = false ∧ aheadL x (⟨lck, lzk, ltk, lpk⟩ : Ls)) := fun h => c30 h.2
      have hst : setStep x (lsk.map (·.l), false) (⟨lck, lzk, ltk, lpk⟩ : Ls) = ((lsk ++ [(⟨⟨lck, lzk, ltk, lpk⟩, pok, pnk, pck⟩ : Lc)]).map (·.l), false) := by
        unfold setStep
        rw [if_neg hs, if_neg hA]
        simp
      exact ⟨y.ln - (k + 1), by omega, k + 1, (lsk ++ [(⟨⟨lck, lzk, ltk, lpk⟩, pok, pnk, pck⟩ : Lc)]), (some ⟨g1W67, 0, none⟩), (un + 1), d1W67, false, rfl, by omega, f.sub ⟨rfl, rfl, rfl, rfl, rfl, rfl, rfl, rfl, rfl, trivial⟩, B0, rb1, rb4, rb7, ow1W67, hsl, by omega, by rw [setFold_succ x _ k (by omega) hka, hF, hst], hm1W67⟩
    clear f A; intro c54 A f
    refine l_do f rfl rfl rfl (y_move rfl rfl) ?_; clear f A; intro A f
    refine l_no f rfl rfl rfl ?_; clear f A; intro A f
    refine l_no f rfl rfl rfl ?_; clear f A; intro A f
    refine l_no f rfl rfl rfl ?_; clear f A; intro A f
    refine l_no f rfl rfl rfl ?_; clear f A; intro A f
    refine l_no f rfl rfl rfl ?_; clear f A; intro A f
    refine l_no f rfl rfl rfl ?_; clear f A; intro A f
    refine l_no f rfl rfl rfl ?_; clear f A; intro A f
    refine l_no f rfl rfl rfl ?_; clear f A; intro A f
    refine l_do f rfl rfl rfl (y_pick rfl rfl rfl) ?_; clear f A; intro A f
    refine l_do f rfl rfl rfl (y_move rfl rfl) ?_; clear f A; intro A f
    refine l_no f rfl rfl rfl ?_; clear f A; intro A f
    refine l_no f rfl rfl rfl ?_; clear f A; intro A f
    refine l_no f rfl rfl rfl ?_; clear f A; intro A f
    refine l_no f rfl rfl rfl ?_; clear f A; intro A f
    refine l_no f rfl rfl rfl ?_; clear f A; intro A f
    refine l_no f rfl rfl rfl ?_; clear f A; intro A f
    refine l_no f rfl rfl rfl ?_; clear f A; intro A f
    refine l_no f rfl rfl rfl ?_; clear f A; intro A f
    refine l_do f rfl rfl rfl (y_pick rfl rfl rfl) ?_; clear f A; intro A f
    refine wpList_nil ?_
    refine x_tn ?_
    refine x_condF f rfl ?_
    refine wp_skip ?_
    refine x_tn ?_
    refine sx_list ?_
    refine l_do f rfl rfl rfl (y_move rfl rfl) ?_; clear f A; intro A f
    refine l_do f rfl rfl rfl (y_field rfl rfl (fo rfl)) ?_; clear f A; intro A f
    refine l_do f rfl rfl rfl (y_load1 rfl rfl (ag rfl) (rowl (rowq rb1) rfl)) ?_; clear f A; intro A f
    refine l_do f rfl rfl rfl (y_move rfl rfl) ?_; clear f A; intro A f
    refine l_do f rfl rfl rfl (y_index rfl rfl (by first | rfl | assumption) rfl (es rfl) (by omega)) ?_; clear f A; intro A f
    refine l_do f rfl rfl rfl (y_loadN (vs := [_, _, _, _]) rfl rfl (ag rfl) rfl ⟨(St.q c0k B0), (St.q c1k B0), (St.q c2k B0), (St.q c3k B0), trivial⟩) ?_; clear f A; intro A f
    obtain ⟨gvW69, hgvW69⟩ : ∃ g, g = W53.heap.size := ⟨_, rfl⟩
    refine l_opR (R := fun v W => v = .slice (some ⟨gvW69, 0, none⟩) 1 1 ∧ Below W53.heap.size W53 W ∧ W.heap[gvW69]? = some (.cells #[.int .i64 lck, .int .i64 lzk, .int .i64 ltk, .slice pok pnk pck] 57 (0, 0))) f rfl rfl rfl ⟨_, _, bs_exec f rfl rfl (bs_listH _ _ _ _ _), by rw [hgvW69], (Below.refl _ _).alloc (Nat.le_refl _) _, by rw [hgvW69]; show (Array.push _ _)[_]? = _; rw [Array.getElem?_push, if_pos rfl]⟩ ?_
    clear f A
    rintro _ W69 ⟨rfl, hb70, rgvW69⟩ A f
    replace B0 := Below.next B0 hb70; replace rb1 := row_next rb1 hb70; replace rb4 := row_next rb4 hb70; replace rb7 := row_next rb7 hb70; replace ow := owns_below ow hb70 (Nat.le_refl _); replace hsl := Nat.le_trans hsl hb70.size
    refine l_opR (R := fun v W => ∃ g2 c2, v = .slice (some ⟨g2, 0, none⟩) (un + 1) c2 ∧ W.ownsRow s1 57 4 (.slice (some ⟨g2, 0, none⟩) (un + 1) c2) (un + 1) (c4 ((lsk ++ [(⟨⟨lck, lzk, ltk, lpk⟩, pok, pnk, pck⟩ : Lc)]).map Lc.q)) ∧ Below s1 W69 W) f rfl rfl rfl (by obtain ⟨g2, c2, W2, h1, h2, h3⟩ := appL_run W69 _ s1 uo un uc lsk (⟨⟨lck, lzk, ltk, lpk⟩, pok, pnk, pck⟩ : Lc) gvW69 ow (by omega) (by omega) rgvW69; exact ⟨_, W2, append_exec f rfl rfl rfl h1, g2, c2, rfl, h2, h3⟩) ?_
    clear f A
    rintro _ W71 ⟨g1W71, d1W71, rfl, ow1W71, hb72⟩ A f
    replace B0 := B0.trans (hb72.mono hw1)
    replace hsl := Nat.le_trans hsl hb72.size
    replace rb1 := below_row hb72 rb1 l1_b1
    replace rb4 := below_row hb72 rb4 l1_b4
    replace rb7 := below_row hb72 rb7 l1_b7
    have hm1W71 : ∀ l ∈ lsk ++ [(⟨⟨lck, lzk, ltk, lpk⟩, pok, pnk, pck⟩ : Lc)], l ∈ y.ls ∨ l = (⟨x, po, pn, pc⟩ : Lc) := fun l hl => by
      rcases List.mem_append.1 hl with h | h
      · exact hmm l h
      rw [List.mem_singleton] at h
      exact .inl (by rw [h]; exact hmk)
    refine l_do f rfl rfl rfl (y_assign rfl rfl) ?_; clear f A; intro A f
    refine wpList_nil ?_
    refine x_bn ?_
    refine x_tn ?_
    refine sx_list ?_
    refine l_do f rfl rfl rfl (y_move rfl rfl) ?_; clear f A; intro A f
    refine l_do f rfl rfl rfl (y_add rfl rfl rfl rfl (by omega)) ?_; clear f A; intro A f
    refine l_do f rfl rfl rfl (y_assign rfl rfl) ?_; clear f A; intro A f
    refine wpList_nil ?_
    refine x_tn ?_
    have hs : ¬ ((⟨lck, lzk, ltk, lpk⟩ : Ls).c = x.c ∧ (⟨lck, lzk, ltk, lpk⟩ : Ls).z = x.z ∧ (⟨lck, lzk, ltk, lpk⟩ : Ls).t = x.t) := fun h => c54 h.1
    have hA : ¬ ((lsk.map (·.l), false).2 = false ∧ aheadL x (⟨lck, lzk, ltk, lpk⟩ : Ls)) := fun h => c30 h.2
    have hst : setStep x (lsk.map (·.l), false) (⟨lck, lzk, ltk, lpk⟩ : Ls) = ((lsk ++ [(⟨⟨lck, lzk, ltk, lpk⟩, pok, pnk, pck⟩ : Lc)]).map (·.l), false) := by
      unfold setStep
      rw [if_neg hs, if_neg hA]
      simp
    exact ⟨y.ln - (k + 1), by omega, k + 1, (lsk ++ [(⟨⟨lck, lzk, ltk, lpk⟩, pok, pnk, pck⟩ : Lc)]), (some ⟨g1W71, 0, none⟩), (un + 1), d1W71, false, rfl, by omega, f.sub ⟨rfl, rfl, rfl, rfl, rfl, rfl, rfl, rfl, rfl, trivial⟩, B0, rb1, rb4, rb7, ow1W71, hsl, by omega, by rw [setFold_succ x _ k (by omega) hka, hF, hst], hm1W71⟩
  clear f A; intro c11 A f
  refine wpList_nil ?_
  refine x_tn ?_
  refine x_condF f rfl ?_
  refine wp_exit ?_
  refine x_te ?_
  refine x_te ?_
  refine x_bh ?_
  refine x_tn ?_
  refine wp_seq ?_
  refine wp_seq ?_
  refine sx_list ?_
  skip
  refine l_if (d = true) f rfl rfl rfl (by rw [Bool.decide_eq_true]; exact y_move rfl rfl) ?_ ?_
  · clear f A; intro c73 A f
    obtain rfl : d = true := c73
    refine l_do f rfl rfl rfl (y_not rfl rfl) ?_; clear f A; intro A f
    refine wpList_nil ?_
    refine x_tn ?_
    refine x_condF f rfl ?_
    refine wp_skip ?_
    refine x_tn ?_
    refine wp_seq ?_
    refine sx_list ?_
    refine l_do f rfl rfl rfl (y_move rfl rfl) ?_; clear f A; intro A f
    refine l_do f rfl rfl rfl (y_field rfl rfl (fo rfl)) ?_; clear f A; intro A f
    refine l_store f rfl rfl rfl rfl rfl rb1 (sz rfl) rfl (Nat.le_of_ble_eq_true rfl) rfl ?_
    clear rb1; intro W74 hb75 rb1; dsimp only [setL, over, Value.cells] at rb1; replace B0 := Below.thenBut B0 hb75 (by omega); replace rb4 := But.row hb75 rb4 (by omega); replace rb7 := But.row hb75 rb7 (by omega); replace ow := owns_butN ow hb75 (fun a ha => by have := (owns_blk ow a ha).1; omega)
    refine wpList_nil ?_
    refine x_tn ?_
    refine wp_seq ?_
    refine sx_list ?_
    refine l_do f rfl rfl rfl (y_loadN (vs := [_, _, _, _, _]) rfl rfl (ag rfl) rfl (rowls (rowq rb1) _ _ ⟨rfl, rfl, rfl, rfl, rfl, trivial⟩)) ?_; clear f A; intro A f
    refine l_store f rfl rfl rfl rfl rfl rb4 (sz rfl) rfl (Nat.le_of_ble_eq_true rfl) rfl ?_
    clear rb4; intro W76 hb77 rb4; dsimp only [setL, over, Value.cells] at rb4; replace B0 := Below.thenBut B0 hb77 (by omega); replace rb1 := But.row hb77 rb1 (by omega); replace rb7 := But.row hb77 rb7 (by omega); replace ow := owns_butN ow hb77 (fun a ha => by have := (owns_blk ow a ha).1; omega)
    refine wpList_nil ?_
    refine x_tn ?_
    refine wp_ret ?_
    refine x_retc f rfl rfl (ag rfl) rb4 rfl ?_
    -- return 0: ¬c11@27 c73@87
    have ek : k = y.ln := by omega
    rw [List.take_of_length_le (by omega)] at hF
    have hfe := setFold_eq (riseP_of hord) x
    rw [show y.ls.map (·.l) = y.hp.lists from rfl, hF] at hfe
    refine ⟨lsk, uo, un, uc, rfl, at_withL (HRest.of (hy.below B0)) ow (by omega) (fun l hl => ?_), ?_, B0, fun a ha => Nat.le_trans hw1 (owns_blk ow a ha).1, hmm⟩
    · rcases hmm l hl with h | h
      · exact (hy.lists.at_ l h).below B0
      rw [h]
      exact hN.below B0
    rw [← hfe]
    simp
  clear f A; intro c73 A f
  obtain rfl : d = false := (by simpa using c73)
  refine l_do f rfl rfl rfl (y_not rfl rfl) ?_; clear f A; intro A f
  refine wpList_nil ?_
  refine x_tn ?_
  refine x_condT f rfl ?_
  refine sx_list ?_
  refine l_do f rfl rfl rfl (y_move rfl rfl) ?_; clear f A; intro A f
  refine l_do f rfl rfl rfl (y_loadN (vs := [_, _, _, _]) rfl rfl (ag rfl) rfl (rowls (rowq rb7) _ _ ⟨rfl, rfl, rfl, rfl, trivial⟩)) ?_; clear f A; intro A f
  obtain ⟨gvW78, hgvW78⟩ : ∃ g, g = W10.heap.size := ⟨_, rfl⟩
  refine l_opR (R := fun v W => v = .slice (some ⟨gvW78, 0, none⟩) 1 1 ∧ Below W10.heap.size W10 W ∧ W.heap[gvW78]? = some (.cells #[.int .i64 x.c, .int .i64 x.z, .int .i64 x.t, .slice po pn pc] 57 (0, 0))) f rfl rfl rfl ⟨_, _, bs_exec f rfl rfl (bs_listH _ _ _ _ _), by rw [hgvW78], (Below.refl _ _).alloc (Nat.le_refl _) _, by rw [hgvW78]; show (Array.push _ _)[_]? = _; rw [Array.getElem?_push, if_pos rfl]⟩ ?_
  clear f A
  rintro _ W78 ⟨rfl, hb79, rgvW78⟩ A f
  replace B0 := Below.next B0 hb79; replace rb1 := row_next rb1 hb79; replace rb4 := row_next rb4 hb79; replace rb7 := row_next rb7 hb79; replace ow := owns_below ow hb79 (Nat.le_refl _); replace hsl := Nat.le_trans hsl hb79.size
  refine l_opR (R := fun v W => ∃ g2 c2, v = .slice (some ⟨g2, 0, none⟩) (un + 1) c2 ∧ W.ownsRow s1 57 4 (.slice (some ⟨g2, 0, none⟩) (un + 1) c2) (un + 1) (c4 ((lsk ++ [(⟨x, po, pn, pc⟩ : Lc)]).map Lc.q)) ∧ Below s1 W78 W) f rfl rfl rfl (by obtain ⟨g2, c2, W2, h1, h2, h3⟩ := appL_run W78 _ s1 uo un uc lsk (⟨x, po, pn, pc⟩ : Lc) gvW78 ow (by omega) (by omega) rgvW78; exact ⟨_, W2, append_exec f rfl rfl rfl h1, g2, c2, rfl, h2, h3⟩) ?_
  clear f A
  rintro _ W80 ⟨g6W80, d6W80, rfl, ow6W80, hb81⟩ A f
  replace B0 := B0.trans (hb81.mono hw1)
  replace hsl := Nat.le_trans hsl hb81.size
  replace rb1 := below_row hb81 rb1 l1_b1
  replace rb4 := below_row hb81 rb4 l1_b4
  replace rb7 := below_row hb81 rb7 l1_b7
  have hm6W80 : ∀ l ∈ lsk ++ [(⟨x, po, pn, pc⟩ : Lc)], l ∈ y.ls ∨ l = (⟨x, po, pn, pc⟩ : Lc) := fun l hl => by
    rcases List.mem_append.1 hl with h | h
    · exact hmm l h
    rw [List.mem_singleton] at h
    exact .inr h
  refine l_do f rfl rfl rfl (y_assign rfl rfl) ?_; clear f A; intro A f
  refine wpList_nil ?_
  refine x_tn ?_
  refine wp_seq ?_
  refine sx_list ?_
  refine l_do f rfl rfl rfl (y_move rfl rfl) ?_; clear f A; intro A f
  refine l_do f rfl rfl rfl (y_field rfl rfl (fo rfl)) ?_; clear f A; intro A f
  refine l_store f rfl rfl rfl rfl rfl rb1 (sz rfl) rfl (Nat.le_of_ble_eq_true rfl) rfl ?_
  clear rb1; intro W82 hb83 rb1; dsimp only [setL, over, Value.cells] at rb1; replace B0 := Below.thenBut B0 hb83 (by omega); replace rb4 := But.row hb83 rb4 (by omega); replace rb7 := But.row hb83 rb7 (by omega); replace ow6W80 := owns_butN ow6W80 hb83 (fun a ha => by have := (owns_blk ow6W80 a ha).1; omega)
  refine wpList_nil ?_
  refine x_tn ?_
  refine wp_seq ?_
  refine sx_list ?_
  refine l_do f rfl rfl rfl (y_loadN (vs := [_, _, _, _, _]) rfl rfl (ag rfl) rfl (rowls (rowq rb1) _ _ ⟨rfl, rfl, rfl, rfl, rfl, trivial⟩)) ?_; clear f A; intro A f
  refine l_store f rfl rfl rfl rfl rfl rb4 (sz rfl) rfl (Nat.le_of_ble_eq_true rfl) rfl ?_
  clear rb4; intro W84 hb85 rb4; dsimp only [setL, over, Value.cells] at rb4; replace B0 := Below.thenBut B0 hb85 (by omega); replace rb1 := But.row hb85 rb1 (by omega); replace rb7 := But.row hb85 rb7 (by omega); replace ow6W80 := owns_butN ow6W80 hb85 (fun a ha => by have := (owns_blk ow6W80 a ha).1; omega)
  refine wpList_nil ?_
  refine x_tn ?_
  refine wp_ret ?_
  refine x_retc f rfl rfl (ag rfl) rb4 rfl ?_
  -- return 1: ¬c11@27 ¬c73@87
  have ek : k = y.ln := by omega
  rw [List.take_of_length_le (by omega)] at hF
  have hfe := setFold_eq (riseP_of hord) x
  rw [show y.ls.map (·.l) = y.hp.lists from rfl, hF] at hfe
  refine ⟨(lsk ++ [(⟨x, po, pn, pc⟩ : Lc)]), (some ⟨g6W80, 0, none⟩), (un + 1), d6W80, rfl, at_withL (HRest.of (hy.below B0)) ow6W80 (by omega) (fun l hl => ?_), ?_, B0, fun a ha => Nat.le_trans hw1 (owns_blk ow6W80 a ha).1, hm6W80⟩
  · rcases hm6W80 l hl with h | h
    · exact (hy.lists.at_ l h).below B0
    rw [h]
    exact hN.below B0
  rw [← hfe]
  simp


end Go.Proofs.Ytbjlbmofdnkmiaa
