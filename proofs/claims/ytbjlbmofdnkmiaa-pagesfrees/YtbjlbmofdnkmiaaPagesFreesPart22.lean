/-
  OWN TEXTS, bundled: RefHc, RefZl, RefZw, RefZk.
-/
import Derived.Test.YtbjlbmofdnkmiaaPagesFreesPart12
import Derived.Test.YtbjlbmofdnkmiaaPagesFreesPart11
import Derived.Test.YtbjlbmofdnkmiaaPagesFreesPart6
import Derived.Test.YtbjlbmofdnkmiaaPagesFreesPart20
import Derived.Test.YtbjlbmofdnkmiaaPagesFreesPart19

/-
  OWN TEXT. Contracts of the document's answer: HeapCopy (written by sxcp.py).
-/
namespace Go.Proofs.Ytbjlbmofdnkmiaa
open Go Go.RowKit Go.Proofs.Ytbjlbmofdnkmiaa.Kit

theorem blk_owns {w w' : World} {e : TypeId} {ao : Option Addr} {n cap size : Nat} {xs : List Value} (h : w'.ownsRow w.heap.size e size (.slice ao n cap) n xs) : ∀ b, blkOf (.slice ao n cap) = some b → w.heap.size ≤ b ∧ b < w'.heap.size := by
  intro b hb
  cases ao with
  | none => cases hb
  | some a =>
    cases hb
    have := owns_blk h a rfl
    exact ⟨this.1, this.2.1⟩

theorem tk_succ (l : List Zc) (k : Nat) (h : k < l.length) {z : Zc} (hx : l.getD k .zero = z) : (l.take (k + 1)).map (·.z) = (l.take k).map (·.z) ++ [z.z] := by
  rw [List.getD_eq_getElem?_getD, List.getElem?_eq_getElem h] at hx
  simp only [Option.getD_some] at hx
  rw [List.take_succ_eq_append_getElem h, List.map_append, hx]
  rfl
theorem tk_succL (l : List Lc) (k : Nat) (h : k < l.length) {z : Lc} (hx : l.getD k .zero = z) : (l.take (k + 1)).map (·.l) = (l.take k).map (·.l) ++ [z.l] := by
  rw [List.getD_eq_getElem?_getD, List.getElem?_eq_getElem h] at hx
  simp only [Option.getD_some] at hx
  rw [List.take_succ_eq_append_getElem h, List.map_append, hx]
  rfl
theorem bs_zone (a b c d : Value) (w : World) : (Instr.buildSlice 23 1 #[(0, .agg #[a, b, c, d])]).run Try.prog w = .ok (.slice (some ⟨w.heap.size, 0, none⟩) 1 1) (w.alloc (.cells #[a, b, c, d] 44)) := by
  simp [go_sem]
theorem bs_list (a b c d : Value) (w : World) : (Instr.buildSlice 25 1 #[(0, .agg #[a, b, c, d])]).run Try.prog w = .ok (.slice (some ⟨w.heap.size, 0, none⟩) 1 1) (w.alloc (.cells #[a, b, c, d] 57)) := by
  simp [go_sem]
theorem cells4_new {w : World} {b : Nat} {t : TypeId} {p q r s : Value} (h : w.heap[b]? = some (.cells #[p, q, r, s] t (0, 0))) : ∀ j v, [p, q, r, s][j]? = some v → w.cell? ((⟨b, 0, none⟩ : Addr).add j) = some v := by
  intro j v hj
  have hadd : (⟨b, 0, none⟩ : Addr).add j = ⟨b, j, none⟩ := by unfold Addr.add; split <;> simp_all
  rw [hadd, cell_of_row w b j _ t (0, 0) h]
  simpa using hj

set_option maxRecDepth 10000 in
set_option maxHeartbeats 4000000 in
theorem heapCopy_own (w : World) (x : Hx) (hx : x.At w) :
    Calls Try.prog 14 #[.agg #[.slice x.zo x.zn x.zc, .slice x.mo x.mn x.mc, .int .i64 x.cpus, .slice x.lo x.ln x.lc, .slice x.vo x.vn x.vc]] w fun e w' => (∃ y : Hx, e = .returned (.agg #[.slice y.zo y.zn y.zc, .slice y.mo y.mn y.mc, .int .i64 y.cpus, .slice y.lo y.ln y.lc, .slice y.vo y.vn y.vc]) ∧ y.hp = x.hp ∧ HcpI w' w.heap.size y ∧ ∀ b, b < w.heap.size → Away b y) ∧ Below w.heap.size w w' := by
  have B0 := Below.refl w.heap.size w
  refine sx_enter (args := [_]) 59 Try.func14 rfl rfl rfl ?_
  intro A f
  refine wp_seq ?_
  refine sx_list ?_
  refine l_box f rfl rfl rfl rfl rfl ?_; clear f A; intro b1 W2 eb1 hb3 rb1 A f; dsimp only [Value.cells] at rb1
  have z_B0_b1 := B0.size; rw [eb1] at z_B0_b1
  replace B0 := Below.next B0 hb3
  refine l_alloc (z := .agg #[.slice none 0 0, .slice none 0 0, .int .i64 0, .slice none 0 0, .slice none 0 0]) f rfl rfl rfl rfl (by kernel_rfl) ?_; clear f A; intro b4 W5 eb4 hb6 rb4 A f; dsimp only [Value.cells] at rb4
  have o_b1_b4 : b1 < b4 := by have := row_lt rb1; omega
  have z_B0_b4 := B0.size; rw [eb4] at z_B0_b4
  replace B0 := Below.next B0 hb6; replace rb1 := row_next rb1 hb6
  refine wpList_nil ?_
  refine x_tn ?_
  refine wp_seq ?_
  obtain ⟨Wd, hWd0⟩ : ∃ Wd, Wd = W5 := ⟨_, rfl⟩
  obtain ⟨s0, hs0⟩ : ∃ n, n = W5.heap.size := ⟨_, rfl⟩
  refine sx_growl (n := 10) [fun v _ _ => v = .pointer (some ⟨b1, 0 + 1, none⟩), fun v _ _ => v = .slice x.mo x.mn x.mc, fun v _ w => ∃ bo c, v = .slice bo x.mn c ∧ w.ownsRow s0 3 1 (.slice bo x.mn c) x.mn (vals x.mins), fun v _ _ => v = .pointer (some ⟨b1, 0 + 2, none⟩), fun v _ _ => v = .int .i64 x.cpus, fun v _ _ => v = .pointer (some ⟨b1, 0 + 4, none⟩), fun v _ _ => v = .slice x.vo x.vn x.vc, fun v _ w => ∃ bo c, v = .slice bo x.vn c ∧ w.ownsRow s0 63 3 (.slice bo x.vn c) x.vn (bvals x.live), fun v vs _ => ∃ v1 v2 v3, vs = [v1, v2, v3] ∧ v = .agg #[.slice none 0 0, v1, v2, .slice none 0 0, v3], fun v _ w => ∃ b, v = .pointer (some ⟨b, 0, none⟩) ∧ w.heap[b]? = some (.cells #[.slice none 0 0, .slice none 0 0, .int .i64 0, .slice none 0 0, .slice none 0 0] 28 (0, 0)) ∧ s0 ≤ b] [2, 7, 9] (fun wx => Below W5.heap.size W5 wx) f (by kernel_rfl) (by kernel_rfl) rfl (by kernel_rfl) (fun _ _ h hb => Below.next h hb) (rs_all ?_) ((Below.refl _ _).drew) ?_ ?_
  · intro r hr
    simp only [List.mem_cons, List.not_mem_nil, or_false] at hr
    rcases hr with rfl | rfl | rfl | rfl | rfl | rfl | rfl | rfl | rfl | rfl
    · exact fun _ _ _ _ h _ => h
    · exact fun _ _ _ _ h _ => h
    · rintro v vs w1 w2 ⟨bo, c, e1, ho⟩ hb; exact ⟨bo, c, e1, owns_below ho hb (Nat.le_refl _)⟩
    · exact fun _ _ _ _ h _ => h
    · exact fun _ _ _ _ h _ => h
    · exact fun _ _ _ _ h _ => h
    · exact fun _ _ _ _ h _ => h
    · rintro v vs w1 w2 ⟨bo, c, e1, ho⟩ hb; exact ⟨bo, c, e1, owns_below ho hb (Nat.le_refl _)⟩
    · exact fun _ _ _ _ h _ => h
    · rintro v vs w1 w2 ⟨b, e1, hr, hb0⟩ hb; exact ⟨b, e1, row_next hr hb, hb0⟩
  · refine ⟨?_, ?_, ?_, ?_, ?_, ?_, ?_, ?_, ?_, ?_, trivial⟩
    · intro a w1 hS g hd K hK
      exact g_val g (y_field rfl rfl (fo rfl)) (hK _ _ (Below.refl _ _) rfl (fun b hb => absurd (show none = some b from hb) (by simp)))
    · intro a w1 hS g hd K hK
      obtain ⟨h0, -⟩ := hd
      replace g := g.more (d := 8) h0
      exact g_val g (y_load1 rfl rfl (ag rfl) (rowl (rowq (row_next rb1 hS)) rfl)) (hK _ _ (Below.refl _ _) rfl (fun b hb => absurd (show none = some b from hb) (by simp)))
    · intro a w1 hS g hd K hK
      obtain ⟨h0, -⟩ := hd
      replace g := g.more (d := 9) h0
      refine g_call g (IsCall.mk' (cap := []) rfl rfl rfl) (pl rfl) (words_any w1 x.mo x.mn x.mc x.mins hx.mins.len hx.mins.reach ((hx.mins.below (Below.next B0 hS)).at_)) ?_
      rintro e w2 ⟨bo, c, rfl, ho, hb⟩
      exact ⟨_, rfl, hK _ _ hb ⟨bo, c, rfl, owns_weaken ho (by rw [hs0]; exact hS.size)⟩ (blk_owns ho)⟩
    · intro a w1 hS g hd K hK
      exact g_val g (y_field rfl rfl (fo rfl)) (hK _ _ (Below.refl _ _) rfl (fun b hb => absurd (show none = some b from hb) (by simp)))
    · intro a w1 hS g hd K hK
      obtain ⟨h0, -⟩ := hd
      replace g := g.more (d := 11) h0
      exact g_val g (y_load1 rfl rfl (ag rfl) (rowl (rowq (row_next rb1 hS)) rfl)) (hK _ _ (Below.refl _ _) rfl (fun b hb => absurd (show none = some b from hb) (by simp)))
    · intro a w1 hS g hd K hK
      exact g_val g (y_field rfl rfl (fo rfl)) (hK _ _ (Below.refl _ _) rfl (fun b hb => absurd (show none = some b from hb) (by simp)))
    · intro a w1 hS g hd K hK
      obtain ⟨h0, -⟩ := hd
      replace g := g.more (d := 13) h0
      exact g_val g (y_load1 rfl rfl (ag rfl) (rowl (rowq (row_next rb1 hS)) rfl)) (hK _ _ (Below.refl _ _) rfl (fun b hb => absurd (show none = some b from hb) (by simp)))
    · intro a w1 hS g hd K hK
      obtain ⟨h0, -⟩ := hd
      replace g := g.more (d := 14) h0
      refine g_call g (IsCall.mk' (cap := []) rfl rfl rfl) (pl rfl) (blocksCopy_any w1 x.vo x.vn x.vc x.live (hx.live.below (Below.next B0 hS))) ?_
      rintro e w2 ⟨bo, c, rfl, ho, hb⟩
      exact ⟨_, rfl, hK _ _ hb ⟨bo, c, rfl, owns_weaken ho (by rw [hs0]; exact hS.size)⟩ (blk_owns ho)⟩
    · intro a w1 hS g hd K hK
      obtain ⟨⟨m1, m2, h0, -⟩, h1, ⟨m3, m4, h2, -⟩, -⟩ := hd
      have g1 := ((g.more (d := 10) h0).more (d := 12) h1).more (d := 15) h2
      exact g_val g1 (y_build #[.slice none 0 0, .slice m1 x.mn m2, .int .i64 x.cpus, .slice none 0 0, .slice m3 x.vn m4] rfl rfl (by kernel_rfl)) (hK _ _ (Below.refl _ _) ⟨_, _, _, rfl, by first | rfl | (rw [h0, h1, h2])⟩ (fun b hb => absurd (show none = some b from hb) (by simp)))
    · intro a w1 hS g hd K hK
      exact g_alloc (z := .agg #[.slice none 0 0, .slice none 0 0, .int .i64 0, .slice none 0 0, .slice none 0 0]) rfl (by kernel_rfl) (fun b W1 e1 hb hr => hK _ _ hb ⟨b, rfl, hr, by have := hS.size; omega⟩ (fun b' hb' => by cases hb'; exact ⟨Nat.le_of_eq e1, row_lt hr⟩))
  · intro a w1 G
    have hS := G.s
    obtain ⟨mo, mc, em, om⟩ := G.r 2 rfl
    have ec := G.r 4 rfl
    obtain ⟨vo, vc, ev', ov⟩ := G.r 7 rfl
    obtain ⟨v1, v2, v3, e8, e8'⟩ := G.r 8 rfl
    obtain ⟨b3, eb, rb3, hb3⟩ := G.r 9 rfl
    have hm3 : ∀ a, mo = some a → a.block ≠ b3 := by
      intro a ha
      subst ha
      exact G.d 2 9 _ _ rfl rfl (by decide) (by show blkOf _ = _; rw [em]; rfl) (by show blkOf _ = _; rw [eb]; rfl)
    have hv3 : ∀ a, vo = some a → a.block ≠ b3 := by
      intro a ha
      subst ha
      exact G.d 7 9 _ _ rfl rfl (by decide) (by show blkOf _ = _; rw [ev']; rfl) (by show blkOf _ = _; rw [eb]; rfl)
    have e9 : [slotV _ a 2, slotV _ a 4, slotV _ a 7] = [v1, v2, v3] := e8
    simp only [List.cons.injEq, and_true] at e9
    obtain ⟨q1, q2, q3⟩ := e9
    rw [em] at q1
    have q2' : Value.int .i64 x.cpus = v2 := ec.symm.trans q2
    rw [ev'] at q3
    subst q1 q2' q3
    have g := (G.f.more (d := 3) eb).more (d := 16) e8'
    show Oper.wp _ _ _ _ _ _
    refine g_store g rfl rfl rfl rfl rb3 (sz rfl) rfl (Nat.le_of_ble_eq_true rfl) rfl ?_
    intro W7 hbt rb3'
    dsimp only [setL, over, Value.cells] at rb3'
    have hlt1 := row_lt rb1
    have hlt4 := row_lt rb4
    replace B0 : Below w.heap.size w W7 := Below.thenBut (Below.next B0 hS) hbt (by have := B0.size; omega)
    replace rb1 := But.row hbt (row_next rb1 hS) (by omega)
    replace rb4 := But.row hbt (row_next rb4 hS) (by omega)
    have hs1 : w.heap.size ≤ s0 := by rw [hs0]; exact Nat.le_trans (by omega) (Nat.le_of_lt hlt1)
    have HC : HcpI W7 w.heap.size ⟨[], none, 0, 0, x.mins, mo, x.mn, mc, x.cpus, [], none, 0, 0, x.live, vo, x.vn, vc⟩ := by
      have om' := owns_butN om hbt hm3
      have ov' := owns_butN ov hbt hv3
      exact ⟨⟨rfl, .inl ⟨rfl, rfl⟩⟩, ⟨rfl, .inl ⟨rfl, rfl⟩⟩, ⟨Zons.nil _, nums_of_owns om' hx.mins.reach, Lsts.nil _, ⟨bowns_len ov', hx.live.reach, blks_of_owns ov'⟩⟩, fun a ha => (by cases ha), fun a ha => (by cases ha), fun a b ha => (by cases ha)⟩
    have hb13 : b1 ≠ b3 := by omega
    have hb43 : b4 ≠ b3 := by omega
    have hm1 : ∀ a, mo = some a → s0 ≤ a.block := fun a ha => (owns_blk om a ha).1
    have hv1 : ∀ a, vo = some a → s0 ≤ a.block := fun a ha => (owns_blk ov a ha).1
    clear om ov rb3 hbt hS em q2 ec ev' e8 e8' eb G f
    clear A
    revert g
    revert a
    intro A f
    have HQ : HcQ w W7 b1 b4 b3 x ⟨[], none, 0, 0, x.mins, mo, x.mn, mc, x.cpus, [], none, 0, 0, x.live, vo, x.vn, vc⟩ :=
      ⟨B0, rb1, rb4, rb3', HC, fun a ha => (by cases ha), fun a ha => (by cases ha), ⟨fun z hz => (by cases hz), fun z hz => (by cases hz), fun _ => hm3, fun _ a ha => (by cases ha), fun l hl => (by cases hl), fun _ => hv3⟩ , ⟨fun z hz => (by cases hz), fun z hz => (by cases hz), fun _ a ha => (by have := hm1 a ha; omega), fun _ a ha => (by cases ha), fun l hl => (by cases hl), fun _ a ha => (by have := hv1 a ha; omega)⟩, fun b hb => ⟨fun z hz => (by cases hz), fun z hz => (by cases hz), fun _ a ha => (by have := hm1 a ha; omega), fun _ a ha => (by cases ha), fun l hl => (by cases hl), fun _ a ha => (by have := hv1 a ha; omega)⟩, rfl, rfl, rfl, ⟨by omega, by omega, by omega, hb13, hb43⟩⟩
    clear HC rb1 rb4 rb3' B0
    show Exit.then _ _ .normal A W7
    refine x_tn ?_
    refine wp_seq ?_
    refine wp_seq ?_
    refine sx_list ?_
    refine l_do f rfl rfl rfl (y_assign rfl rfl) ?_; clear f A; intro A f
    refine wpList_nil ?_
    refine x_tn ?_
    refine wp_block ?_
    refine x_loop (fun n A W => ∃ (k : Nat) (y : Hx), n = x.zn - k ∧ k ≤ x.zn ∧ Fr A 59 [(1, .pointer (some ⟨b1, 0, none⟩)), (2, .pointer (some ⟨b4, 0, none⟩)), (3, .pointer (some ⟨b3, 0, none⟩)), (4, .int .i64 (k : Nat))] ∧ HcQ w W b1 b4 b3 x y ∧ y.zn = k ∧ y.zs.map (·.z) = (x.zs.take k).map (·.z) ∧ y.ls = [] ∧ y.ln = 0) (n0 := x.zn) (⟨0, _, rfl, Nat.zero_le _, f.sub ⟨rfl, rfl, rfl, rfl, trivial⟩, HQ, rfl, rfl, rfl, rfl⟩) ?_
    clear f A
    clear HQ
    rintro n A W7 ⟨k, y, hn, hk, f, HQ, hyn, hyz, hyl, hyn0⟩
    have B0 := HQ.B
    have rb1 := HQ.r1
    have rb4 := HQ.r4
    have rb3 := HQ.r3
    have zrch := hx.zones.reach
    refine wp_seq ?_
    refine wp_seq ?_
    refine sx_list ?_
    refine l_do f rfl rfl rfl (y_move rfl rfl) ?_; clear f A; intro A f
    refine l_do f rfl rfl rfl (y_field rfl rfl (fo rfl)) ?_; clear f A; intro A f
    refine l_do f rfl rfl rfl (y_load1 rfl rfl (ag rfl) (rowl (rowq rb1) rfl)) ?_; clear f A; intro A f
    refine l_do f rfl rfl rfl (y_len rfl rfl (sl rfl)) ?_; clear f A; intro A f
    refine l_if _ f rfl rfl rfl (y_lss rfl rfl rfl) ?_ ?_
    · clear f A; intro c8 A f
      refine wpList_nil ?_
      refine x_tn ?_
      refine x_condT f rfl ?_
      refine wp_skip ?_
      refine x_tn ?_
      refine wp_seq ?_
      refine wp_block ?_
      refine wp_seq ?_
      refine sx_list ?_
      refine l_do f rfl rfl rfl (y_field rfl rfl (fo rfl)) ?_; clear f A; intro A f
      refine l_do f rfl rfl rfl (y_load1 rfl rfl (ag rfl) (rowl (rowq rb1) rfl)) ?_; clear f A; intro A f
      refine l_do f rfl rfl rfl (y_move rfl rfl) ?_; clear f A; intro A f
      obtain ⟨gi, oi, zi, foi, fni, fci, toi, tni, tci, hai, c0i, c1i, c2i, c3i, hati, hXi⟩ := hx.zones.at (k) (by omega)
      replace c0i := St.of c0i; replace c1i := St.of c1i; replace c2i := St.of c2i; replace c3i := St.of c3i
      refine l_do f rfl rfl rfl (y_index rfl rfl (by first | rfl | assumption) rfl (es rfl) (by omega)) ?_; clear f A; intro A f
      refine l_do f rfl rfl rfl (y_loadN (vs := [_, _, _, _]) rfl rfl (ag rfl) rfl ⟨(by first | assumption | exact St.q c0i B0 | exact St.q c1i B0 | exact St.q c2i B0 | exact St.q c3i B0), (by first | assumption | exact St.q c0i B0 | exact St.q c1i B0 | exact St.q c2i B0 | exact St.q c3i B0), (by first | assumption | exact St.q c0i B0 | exact St.q c1i B0 | exact St.q c2i B0 | exact St.q c3i B0), (by first | assumption | exact St.q c0i B0 | exact St.q c1i B0 | exact St.q c2i B0 | exact St.q c3i B0), trivial⟩) ?_; clear f A; intro A f
      have hqs := HQ.lt
      have BQ := Below.refl W7.heap.size W7
      refine l_call f rfl rfl rfl (IsCall.mk' (cap := []) rfl rfl rfl) (pl rfl) (zoneCopy_any _ _ _ _ _ _ _ zi (hati.below B0)) ?_
      clear f A
      rintro _ W9 ⟨⟨fo2, fn2, fc2, to2, tn2, tc2, rfl, hz2, hf2, ht2⟩, hb10⟩
      refine ⟨_, rfl, ?_⟩
      intro A f
      replace B0 := Below.next B0 hb10; replace HQ := HQ.below hb10; replace BQ := Below.next BQ hb10; replace rb1 := row_next rb1 hb10; replace rb4 := row_next rb4 hb10; replace rb3 := row_next rb3 hb10
      refine l_as (z := .agg #[.int .i64 0, .int .i64 0, .slice none 0 0, .slice none 0 0]) f rfl rfl rfl rfl (by kernel_rfl) rfl rfl (fun _ => rfl) (fun _ => rfl) rfl (by intro u hu; simp [Value.cells] at hu; rcases hu with rfl | rfl | rfl | rfl <;> rfl) ?_; clear f A; intro b11 W12 eb11 hb13 rb11 A f
      dsimp only [Value.cells] at rb11
      have hpb11 := hb13
      have o_b1_b11 : b1 < b11 := by have := row_lt rb1; omega
      have o_b4_b11 : b4 < b11 := by have := row_lt rb4; omega
      have o_b3_b11 : b3 < b11 := by have := row_lt rb3; omega
      have z_B0_b11 := B0.size; rw [eb11] at z_B0_b11
      have z_BQ_b11 := BQ.size; rw [eb11] at z_BQ_b11
      replace B0 := Below.next B0 hb13; replace HQ := HQ.below hb13; replace BQ := Below.next BQ hb13; replace hz2 := hz2.below hb13; replace rb1 := row_next rb1 hb13; replace rb4 := row_next rb4 hb13; replace rb3 := row_next rb3 hb13
      refine wpList_nil ?_
      refine x_tn ?_
      refine sx_list ?_
      refine l_do f rfl rfl rfl (y_field rfl rfl (fo rfl)) ?_; clear f A; intro A f
      refine l_do f rfl rfl rfl (y_load1 rfl rfl (ag rfl) (rowl (rowq rb3) rfl)) ?_; clear f A; intro A f
      refine l_do f rfl rfl rfl (y_loadN (vs := [_, _, _, _]) rfl rfl (ag rfl) rfl (rowls (rowq rb11) _ _ ⟨rfl, rfl, rfl, rfl, trivial⟩)) ?_; clear f A; intro A f
      refine l_opR (R := fun v W => v = .slice (some ⟨W12.heap.size, 0, none⟩) 1 1 ∧ Below W12.heap.size W12 W ∧ W.heap[W12.heap.size]? = some (.cells #[.int .i64 zi.f, .int .i64 zi.t, .slice fo2 fn2 fc2, .slice to2 tn2 tc2] 44 (0, 0))) f rfl rfl rfl ⟨_, _, bs_exec f rfl rfl (bs_zone _ _ _ _ _), rfl, (Below.refl _ _).alloc (Nat.le_refl _) _, by show (Array.push _ _)[_]? = _; rw [Array.getElem?_push, if_pos rfl]⟩ ?_
      clear f A
      rintro _ W14 ⟨rfl, hb15, rbn⟩ A f
      replace B0 := Below.next B0 hb15; replace HQ := HQ.below hb15; replace BQ := Below.next BQ hb15; replace hz2 := hz2.below hb15; replace rb1 := row_next rb1 hb15; replace rb4 := row_next rb4 hb15; replace rb3 := row_next rb3 hb15; replace rb11 := row_next rb11 hb15
      obtain ⟨i1, hj, hy0, hy1, hy2⟩ := info_parts info_zone
      have hsq := HQ.B.size
      obtain ⟨g', cap', W9, hrun, ow, hcs⟩ := append_row (P := Try.prog) W14 w.heap.size 23 23 44 i1 _ 4 Try.underlying23 hj hy0 hy1 rfl y.zo y.zn y.zc (c4 (y.zs.map Zc.q)) HQ.C.oz ⟨_, 0, none⟩ 1 1 [.int .i64 zi.f, .int .i64 zi.t, .slice fo2 fn2 fc2, .slice to2 tn2 tc2] rfl (cells4_new rbn) (by intro u hu; simp only [List.mem_cons, List.not_mem_nil, or_false] at hu; rcases hu with rfl | rfl | rfl | rfl <;> rfl) (by omega) (by unfold maxLen; omega) (by rw [hy2]; omega) hsq
      refine l_opR (R := fun v W => v = .slice (some ⟨g', 0, none⟩) (y.zn + 1) cap' ∧ W9 = W) f rfl rfl rfl ⟨_, _, append_exec f rfl rfl rfl hrun, rfl, rfl⟩ ?_
      clear f A
      rintro _ _ ⟨rfl, rfl⟩ A f
      have HQw := HQ
      clear HQ
      have hgg := (HQw.z3)
      have hg3 : g' ≠ b3 := by rcases hcs with ⟨e, _⟩ | ⟨e, _⟩; exact (HQw.z3 _ e).1; have := HQw.lt; omega
      have hrow : ∀ {u}, W14.heap[b3]? = some u → W9.heap[b3]? = some u := by intro u h; rcases hcs with ⟨_, e⟩ | ⟨_, e⟩; exact But.row e h (Ne.symm hg3); exact row_next h e
      replace rb3 := hrow rb3
      refine l_do f rfl rfl rfl (y_field rfl rfl (fo rfl)) ?_; clear f A; intro A f
      refine l_store f rfl rfl rfl rfl rfl rb3 (sz rfl) rfl (Nat.le_of_ble_eq_true rfl) rfl ?_
      clear rb3; intro W17 hb18 rb3; dsimp only [setL, over, Value.cells] at rb3; have HQ2 := HcQ.addZ (z := ⟨zi, fo2, fn2, fc2, to2, tn2, tc2⟩) HQw (by omega) BQ.size ⟨hqs.1, hqs.2.1, hqs.2.2.1, hqs.2.2.2.1, hqs.2.2.2.2⟩ hz2 hf2 ht2 ow hcs hb18 rb3
      refine wpList_nil ?_
      refine x_bn ?_
      refine x_tn ?_
      refine sx_list ?_
      refine l_do f rfl rfl rfl (y_move rfl rfl) ?_; clear f A; intro A f
      refine l_do f rfl rfl rfl (y_add rfl rfl rfl rfl (by omega)) ?_; clear f A; intro A f
      refine l_do f rfl rfl rfl (y_assign rfl rfl) ?_; clear f A; intro A f
      refine wpList_nil ?_
      refine x_tn ?_
      exact ⟨x.zn - (k + 1), by omega, k + 1, _, rfl, by omega, f.sub ⟨rfl, rfl, rfl, rfl, trivial⟩, HQ2, by show y.zn + 1 = k + 1; omega, by show (y.zs ++ [_]).map _ = _; rw [List.map_append, hyz, tk_succ x.zs k (by have := hx.zones.len; omega) hXi.out]; rfl, hyl, hyn0⟩
    · clear f A; intro c8 A f
      refine wpList_nil ?_
      refine x_tn ?_
      refine x_condF f rfl ?_
      refine wp_exit ?_
      refine x_te ?_
      refine x_te ?_
      refine x_bh ?_
      refine x_tn ?_
      refine wp_seq ?_
      refine wp_seq ?_
      refine sx_list ?_
      refine l_do f rfl rfl rfl (y_assign rfl rfl) ?_; clear f A; intro A f
      refine wpList_nil ?_
      refine x_tn ?_
      refine wp_block ?_
      have hk3 : k = x.zn := by omega
      have hyn8 : y.zn = x.zn := by omega
      have hyz8 : y.zs.map (·.z) = x.zs.map (·.z) := by rw [hyz, hk3, List.take_of_length_le (by have := hx.zones.len; omega)]
      refine x_loop (fun n A W => ∃ (k : Nat) (y : Hx), n = x.ln - k ∧ k ≤ x.ln ∧ Fr A 59 [(1, .pointer (some ⟨b1, 0, none⟩)), (2, .pointer (some ⟨b4, 0, none⟩)), (3, .pointer (some ⟨b3, 0, none⟩)), (6, .int .i64 (k : Nat))] ∧ HcQ w W b1 b4 b3 x y ∧ y.zn = x.zn ∧ y.zs.map (·.z) = x.zs.map (·.z) ∧ y.ln = k ∧ y.ls.map (·.l) = (x.ls.take k).map (·.l)) (n0 := x.ln) (⟨0, y, rfl, Nat.zero_le _, f.sub ⟨rfl, rfl, rfl, rfl, trivial⟩, HQ, hyn8, hyz8, hyn0, by rw [hyl]; rfl⟩) ?_
      clear f A
      clear HQ hyn8 hyz8 hyl hyn0 hyn hyz hn hk hk3 c8 B0 rb1 rb4 rb3
      rintro n A W19 ⟨k, y, hn, hk, f, HQ, hyn, hyz, hyl, hyls⟩
      have B0 := HQ.B
      have rb1 := HQ.r1
      have rb4 := HQ.r4
      have rb3 := HQ.r3
      have lrch := hx.lists.reach
      refine wp_seq ?_
      refine wp_seq ?_
      refine sx_list ?_
      refine l_do f rfl rfl rfl (y_move rfl rfl) ?_; clear f A; intro A f
      refine l_do f rfl rfl rfl (y_field rfl rfl (fo rfl)) ?_; clear f A; intro A f
      refine l_do f rfl rfl rfl (y_load1 rfl rfl (ag rfl) (rowl (rowq rb1) rfl)) ?_; clear f A; intro A f
      refine l_do f rfl rfl rfl (y_len rfl rfl (sl rfl)) ?_; clear f A; intro A f
      refine l_if _ f rfl rfl rfl (y_lss rfl rfl rfl) ?_ ?_
      · clear f A; intro c20 A f
        refine wpList_nil ?_
        refine x_tn ?_
        refine x_condT f rfl ?_
        refine wp_skip ?_
        refine x_tn ?_
        refine wp_seq ?_
        refine wp_block ?_
        refine wp_seq ?_
        refine sx_list ?_
        refine l_do f rfl rfl rfl (y_field rfl rfl (fo rfl)) ?_; clear f A; intro A f
        refine l_do f rfl rfl rfl (y_load1 rfl rfl (ag rfl) (rowl (rowq rb1) rfl)) ?_; clear f A; intro A f
        refine l_do f rfl rfl rfl (y_move rfl rfl) ?_; clear f A; intro A f
        have hqs := HQ.lt
        have BQ := Below.refl W19.heap.size W19
        obtain ⟨gi, oi, lci, lzi, lti, lpi, poi, pni, pci, hai, c0i, c1i, c2i, c3i, hati, hXi⟩ := hx.lists.at (k) (by omega)
        replace c0i := St.of c0i; replace c1i := St.of c1i; replace c2i := St.of c2i; replace c3i := St.of c3i
        refine l_do f rfl rfl rfl (y_index rfl rfl (by first | rfl | assumption) rfl (es rfl) (by omega)) ?_; clear f A; intro A f
        refine l_do f rfl rfl rfl (y_loadN (vs := [_, _, _, _]) rfl rfl (ag rfl) rfl ⟨(by first | assumption | exact St.q c0i B0 | exact St.q c1i B0 | exact St.q c2i B0 | exact St.q c3i B0), (by first | assumption | exact St.q c0i B0 | exact St.q c1i B0 | exact St.q c2i B0 | exact St.q c3i B0), (by first | assumption | exact St.q c0i B0 | exact St.q c1i B0 | exact St.q c2i B0 | exact St.q c3i B0), (by first | assumption | exact St.q c0i B0 | exact St.q c1i B0 | exact St.q c2i B0 | exact St.q c3i B0), trivial⟩) ?_; clear f A; intro A f
        refine l_as (z := .agg #[.int .i64 0, .int .i64 0, .int .i64 0, .slice none 0 0]) f rfl rfl rfl rfl (by kernel_rfl) rfl rfl (fun _ => rfl) (fun _ => rfl) rfl (by intro u hu; simp [Value.cells] at hu; rcases hu with rfl | rfl | rfl | rfl <;> rfl) ?_; clear f A; intro b21 W22 eb21 hb23 rb21 A f
        dsimp only [Value.cells] at rb21
        have hpb21 := hb23
        have o_b1_b21 : b1 < b21 := by have := row_lt rb1; omega
        have o_b4_b21 : b4 < b21 := by have := row_lt rb4; omega
        have o_b3_b21 : b3 < b21 := by have := row_lt rb3; omega
        have z_B0_b21 := B0.size; rw [eb21] at z_B0_b21
        have z_BQ_b21 := BQ.size; rw [eb21] at z_BQ_b21
        replace B0 := Below.next B0 hb23; replace BQ := Below.next BQ hb23; replace rb1 := row_next rb1 hb23; replace rb4 := row_next rb4 hb23; replace rb3 := row_next rb3 hb23
        refine wpList_nil ?_
        refine x_tn ?_
        refine wp_seq ?_
        refine sx_list ?_
        refine l_do f rfl rfl rfl (y_field rfl rfl (fo rfl)) ?_; clear f A; intro A f
        refine l_do f rfl rfl rfl (y_load1 rfl rfl (ag rfl) (rowl (rowq rb21) rfl)) ?_; clear f A; intro A f
        have hb7 := row_lt rb21
        have hbq7 := BQ.size
        refine l_call f rfl rfl rfl (IsCall.mk' (cap := []) rfl rfl rfl) (pl rfl) (words_any _ _ _ _ lpi hati.len hati.reach (hati.below B0).at_) ?_
        clear f A
        rintro _ W24 ⟨po2, pc2, rfl, ow2, hb25⟩
        refine ⟨_, rfl, ?_⟩
        intro A f
        replace B0 := Below.next B0 hb25; replace BQ := Below.next BQ hb25; replace rb1 := row_next rb1 hb25; replace rb4 := row_next rb4 hb25; replace rb3 := row_next rb3 hb25; replace rb21 := row_next rb21 hb25
        refine l_do f rfl rfl rfl (y_field rfl rfl (fo rfl)) ?_; clear f A; intro A f
        refine l_store f rfl rfl rfl rfl rfl rb21 (sz rfl) rfl (Nat.le_of_ble_eq_true rfl) rfl ?_
        clear rb21; intro W26 hb27 rb21; dsimp only [setL, over, Value.cells] at rb21; replace B0 := Below.thenBut B0 hb27 (by omega); replace BQ := Below.thenBut BQ hb27 (by omega); replace rb1 := But.row hb27 rb1 (by omega); replace rb4 := But.row hb27 rb4 (by omega); replace rb3 := But.row hb27 rb3 (by omega); have ow3 := owns_butN ow2 hb27 (fun a ha => by have := (owns_blk ow2 a ha).1; omega); have hz2 := nums_of_owns ow3 hati.reach; have hq2 : ∀ a, po2 = some a → _ ≤ a.block := fun a ha => Nat.le_trans hbq7 (owns_blk ow2 a ha).1
        refine wpList_nil ?_
        refine x_tn ?_
        refine sx_list ?_
        refine l_do f rfl rfl rfl (y_field rfl rfl (fo rfl)) ?_; clear f A; intro A f
        refine l_do f rfl rfl rfl (y_load1 rfl rfl (ag rfl) (rowl (rowq rb3) rfl)) ?_; clear f A; intro A f
        refine l_do f rfl rfl rfl (y_loadN (vs := [_, _, _, _]) rfl rfl (ag rfl) rfl (rowls (rowq rb21) _ _ ⟨rfl, rfl, rfl, rfl, trivial⟩)) ?_; clear f A; intro A f
        refine l_opR (R := fun v W => v = .slice (some ⟨W26.heap.size, 0, none⟩) 1 1 ∧ Below W26.heap.size W26 W ∧ W.heap[W26.heap.size]? = some (.cells #[.int .i64 lci, .int .i64 lzi, .int .i64 lti, .slice po2 pni pc2] 57 (0, 0))) f rfl rfl rfl ⟨_, _, bs_exec f rfl rfl (bs_list _ _ _ _ _), rfl, (Below.refl _ _).alloc (Nat.le_refl _) _, by show (Array.push _ _)[_]? = _; rw [Array.getElem?_push, if_pos rfl]⟩ ?_
        clear f A
        rintro _ W28 ⟨rfl, hb29, rbn⟩ A f
        replace B0 := Below.next B0 hb29; replace BQ := Below.next BQ hb29; replace hz2 := hz2.below hb29; replace rb1 := row_next rb1 hb29; replace rb4 := row_next rb4 hb29; replace rb3 := row_next rb3 hb29; replace rb21 := row_next rb21 hb29
        obtain ⟨i1, hj, hy0, hy1, hy2⟩ := info_parts info_list
        have HQw := HQ.below BQ
        have hsq := HQw.B.size
        obtain ⟨g', cap', W9, hrun, ow, hcs⟩ := append_row (P := Try.prog) W28 w.heap.size 25 25 57 i1 _ 4 Try.underlying25 hj hy0 hy1 rfl y.lo y.ln y.lc (c4 (y.ls.map Lc.q)) HQw.C.ol ⟨_, 0, none⟩ 1 1 [.int .i64 lci, .int .i64 lzi, .int .i64 lti, .slice po2 pni pc2] rfl (cells4_new rbn) (by intro u hu; simp only [List.mem_cons, List.not_mem_nil, or_false] at hu; rcases hu with rfl | rfl | rfl | rfl <;> rfl) (by omega) (by unfold maxLen; omega) (by rw [hy2]; omega) hsq
        refine l_opR (R := fun v W => v = .slice (some ⟨g', 0, none⟩) (y.ln + 1) cap' ∧ W9 = W) f rfl rfl rfl ⟨_, _, append_exec f rfl rfl rfl hrun, rfl, rfl⟩ ?_
        clear f A
        rintro _ _ ⟨rfl, rfl⟩ A f
        have hg3 : g' ≠ b3 := by rcases hcs with ⟨e, _⟩ | ⟨e, _⟩; exact (HQw.l3 _ e).1; have := HQw.lt; omega
        have hrow : ∀ {u}, W28.heap[b3]? = some u → W9.heap[b3]? = some u := by intro u h; rcases hcs with ⟨_, e⟩ | ⟨_, e⟩; exact But.row e h (Ne.symm hg3); exact row_next h e
        replace rb3 := hrow rb3
        refine l_do f rfl rfl rfl (y_field rfl rfl (fo rfl)) ?_; clear f A; intro A f
        refine l_store f rfl rfl rfl rfl rfl rb3 (sz rfl) rfl (Nat.le_of_ble_eq_true rfl) rfl ?_
        clear rb3; intro W30 hb31 rb3; dsimp only [setL, over, Value.cells] at rb3; have HQ2 := HcQ.addL (l := ⟨⟨lci, lzi, lti, lpi⟩, po2, pni, pc2⟩) HQw (by omega) BQ.size ⟨hqs.1, hqs.2.1, hqs.2.2.1, hqs.2.2.2.1, hqs.2.2.2.2⟩ hz2 hq2 ow hcs hb31 rb3
        refine wpList_nil ?_
        refine x_bn ?_
        refine x_tn ?_
        refine sx_list ?_
        refine l_do f rfl rfl rfl (y_move rfl rfl) ?_; clear f A; intro A f
        refine l_do f rfl rfl rfl (y_add rfl rfl rfl rfl (by omega)) ?_; clear f A; intro A f
        refine l_do f rfl rfl rfl (y_assign rfl rfl) ?_; clear f A; intro A f
        refine wpList_nil ?_
        refine x_tn ?_
        exact ⟨x.ln - (k + 1), by omega, k + 1, _, rfl, by omega, f.sub ⟨rfl, rfl, rfl, rfl, trivial⟩, HQ2, hyn, hyz, by show y.ln + 1 = k + 1; omega, by show (y.ls ++ [_]).map _ = _; rw [List.map_append, hyls, tk_succL x.ls k (by have := hx.lists.len; omega) hXi.out]; rfl⟩
      · clear f A; intro c20 A f
        refine wpList_nil ?_
        refine x_tn ?_
        refine x_condF f rfl ?_
        refine wp_exit ?_
        refine x_te ?_
        refine x_te ?_
        refine x_bh ?_
        refine x_tn ?_
        refine wp_seq ?_
        refine sx_list ?_
        refine l_do f rfl rfl rfl (y_loadN (vs := [_, _, _, _, _]) rfl rfl (ag rfl) rfl (rowls (rowq rb3) _ _ ⟨rfl, rfl, rfl, rfl, rfl, trivial⟩)) ?_; clear f A; intro A f
        refine l_store f rfl rfl rfl rfl rfl rb4 (sz rfl) rfl (Nat.le_of_ble_eq_true rfl) rfl ?_
        clear rb4; intro W32 hb33 rb4; dsimp only [setL, over, Value.cells] at rb4; replace B0 := Below.thenBut B0 hb33 (by omega); replace rb1 := But.row hb33 rb1 (by omega); replace rb3 := But.row hb33 rb3 (by omega); have HC9 := HQ.C.but hb33 (fun a ha => (HQ.z3 a ha).2.2) (fun a ha => (HQ.l3 a ha).2.2) HQ.a4; have he1 := HQ.e1; have he2 := HQ.e2; have he3 := HQ.e3; have ha5 := HQ.a5
        refine wpList_nil ?_
        refine x_tn ?_
        refine wp_ret ?_
        refine x_retc f rfl rfl (ag rfl) rb4 rfl ?_
        -- return 0: ¬c8@21 ¬c20@40
        exact ⟨⟨y, rfl, by show (⟨y.zs.map (·.z), y.mins, y.cpus, y.ls.map (·.l), y.live⟩ : Kit.Hp) = ⟨x.zs.map (·.z), x.mins, x.cpus, x.ls.map (·.l), x.live⟩; rw [he1, he2, he3, hyz, hyls, List.take_of_length_le (by have := hx.lists.len; omega)], HC9, ha5⟩, B0⟩


end Go.Proofs.Ytbjlbmofdnkmiaa

/-
  OWN TEXT. Contracts of the document's answer: withBlock, without.
-/
namespace Go.Proofs.Ytbjlbmofdnkmiaa
open Go Go.RowKit Go.Proofs.Ytbjlbmofdnkmiaa.Kit

set_option maxHeartbeats 2000000 in
theorem without_any (w : World) (ao : Option Addr) (n cap : Nat) (l : List Bk) (a o : Int) (h : Blks w ao n l) :
    Calls Try.prog 50 #[.slice ao n cap, .int .i64 a, .int .i64 o] w fun e w' => ∃ bo m c, e = .returned (.tuple #[.slice bo m c, .bool (hasB l a o)]) ∧
      w'.ownsRow w.heap.size 63 3 (.slice bo m c) m (bvals (dropB l a o)) ∧ Below w.heap.size w w' := by
  obtain ⟨i0, hi, hz0, hz1, hz2⟩ := info_parts info_block
  obtain ⟨hn, hr, hx⟩ := h
  go_enter Try.func50, Try.ntmps50
  go_wp2
  go_loopw [8, 9, 10] (fun v fv i wr => ∃ (k m c : Nat) (bo : Option Addr), k ≤ n ∧ m ≤ k ∧ v = .slice bo m c ∧ fv = .bool (hasB (l.take k) a o) ∧ i = .int .i64 k ∧ wr.ownsRow w.heap.size 63 3 (.slice bo m c) m (bvals (dropB (l.take k) a o)) ∧ Below w.heap.size w wr) (fun _ _ i _ => n - (intOf i).toNat)
  case atStart => exact ⟨0, 0, 0, none, Nat.zero_le _, Nat.le_refl _, rfl, rfl, rfl, World.ownsRow_nil _ _ _ _, Below.refl _ _⟩
  case round =>
    obtain ⟨k, m, c, bo, hk, hm, rfl, rfl, rfl, hown, hb⟩ := hrel
    have hs := hb.size
    by_cases hlt : k < n
    · obtain ⟨b, of, x, y, u, rfl, c1, c2, c3, hX⟩ := (hx.below hb).at k (by omega)
      have htk := take_getD l k (by omega) hX.out
      have hml : m + 1 ≤ maxLen := by unfold maxLen; omega
      by_cases g1 : x = a
      · have g1b : (x == a) = true := by simpa using g1
        by_cases g2 : y = o
        · have g2b : (y == o) = true := by simpa using g2
          have hT : isB a o ⟨x, y, u⟩ = true := decide_eq_true ⟨g1, g2⟩
          have hH' : Value.bool true = .bool (hasB (l.take (k + 1)) a o) := by rw [htk, hasB_snoc, hT, Bool.or_true]
          have hown2 : wr.ownsRow w.heap.size 63 3 (.slice bo m c) m (bvals (dropB (l.take (k + 1)) a o)) := by rw [htk, dropB_snoc, if_pos hT]; exact hown
          have HH' : Hid _ := hH'
          clear hx hX htk hT hown hH' g1 g2
          go_wp2
          go_roundw
          case rel => exact ⟨k + 1, m, c, bo, by omega, by omega, rfl, HH'.out, by go_num, hown2, hb⟩
          case measure => simp [intOf]; omega
        · have g2b : (y == o) = false := by simpa using g2
          have hT : isB a o ⟨x, y, u⟩ = false := decide_eq_false (fun g => g2 g.2)
          have hH' : Value.bool (hasB (l.take k) a o) = .bool (hasB (l.take (k + 1)) a o) := by rw [htk, hasB_snoc, hT, Bool.or_false]
          have HE : Hid (bvals (dropB (l.take k) a o) ++ [.int .i64 x, .int .i64 y, .int .i64 u] = bvals (dropB (l.take (k + 1)) a o)) := by show _ = _; rw [htk, dropB_snoc, hT, if_neg (by simp), bvals_append]; rfl
          have HH' : Hid _ := hH'
          clear hx hX htk hT hH' g1 g2
          go_wp2_with (at_builtin; refine wpList_append_own _ rfl (.tmp 33) (.tmp 38) 26 rfl w.heap.size 63 i0 (.agg #[.int .i64 0, .int .i64 0, .int .i64 0]) 3 24 Try.underlying26 hi hz0 hz1 hz2 rfl (by decide) _ _ _ rfl (hown.alloc _) ⟨wr.heap.size, 0, none⟩ 1 1 [.int .i64 x, .int .i64 y, .int .i64 u] rfl rfl ?c1 ?c2 hml ?c4 ?c5 ?_)
          case c1 => exact cell_three_new _ _ _ _ _
          case c2 => exact ints_oneCell .i64 [_, _, _]
          case c4 => omega
          case c5 => simp; omega
          intro v' w1 hown' hgrow _
          rw [HE.out] at hown'
          have hb' : Below w.heap.size w w1 := (hb.alloc hs _).grown hgrow (by simp; omega) (fun g hg => (hown.lt g hg).1)
          obtain ⟨bo', c', rfl⟩ := owns_shape hown'
          clear hown hgrow hb
          go_wp2
          go_roundw
          case rel => exact ⟨k + 1, m + 1, c', bo', by omega, by omega, rfl, HH'.out, by go_num, hown', hb'⟩
          case measure => simp [intOf]; omega
      · have g1b : (x == a) = false := by simpa using g1
        have hT : isB a o ⟨x, y, u⟩ = false := decide_eq_false (fun g => g1 g.1)
        have hH' : Value.bool (hasB (l.take k) a o) = .bool (hasB (l.take (k + 1)) a o) := by rw [htk, hasB_snoc, hT, Bool.or_false]
        have HE : Hid (bvals (dropB (l.take k) a o) ++ [.int .i64 x, .int .i64 y, .int .i64 u] = bvals (dropB (l.take (k + 1)) a o)) := by show _ = _; rw [htk, dropB_snoc, hT, if_neg (by simp), bvals_append]; rfl
        have HH' : Hid _ := hH'
        clear hx hX htk hT hH' g1
        go_wp2_with (at_builtin; refine wpList_append_own _ rfl (.tmp 33) (.tmp 38) 26 rfl w.heap.size 63 i0 (.agg #[.int .i64 0, .int .i64 0, .int .i64 0]) 3 24 Try.underlying26 hi hz0 hz1 hz2 rfl (by decide) _ _ _ rfl (hown.alloc _) ⟨wr.heap.size, 0, none⟩ 1 1 [.int .i64 x, .int .i64 y, .int .i64 u] rfl rfl ?c1 ?c2 hml ?c4 ?c5 ?_)
        case c1 => exact cell_three_new _ _ _ _ _
        case c2 => exact ints_oneCell .i64 [_, _, _]
        case c4 => omega
        case c5 => simp; omega
        intro v' w1 hown' hgrow _
        rw [HE.out] at hown'
        have hb' : Below w.heap.size w w1 := (hb.alloc hs _).grown hgrow (by simp; omega) (fun g hg => (hown.lt g hg).1)
        obtain ⟨bo', c', rfl⟩ := owns_shape hown'
        clear hown hgrow hb
        go_wp2
        go_roundw
        case rel => exact ⟨k + 1, m + 1, c', bo', by omega, by omega, rfl, HH'.out, by go_num, hown', hb'⟩
        case measure => simp [intOf]; omega
    · obtain rfl : k = n := by omega
      rw [List.take_of_length_le (by omega)] at hown ⊢
      go_wp2
      go_ret2
      exact ⟨bo, m, c, rfl, hown, hb⟩

end Go.Proofs.Ytbjlbmofdnkmiaa

/-
  OWN TEXT. Contracts of the document's answer: withBlock.
-/
namespace Go.Proofs.Ytbjlbmofdnkmiaa
open Go Go.RowKit Go.Proofs.Ytbjlbmofdnkmiaa.Kit

theorem box3 (w : World) (x y z : Value) (t : TypeId) : (w.alloc (.cells #[x, y, z] t)).cell? ⟨w.heap.size, 0, none⟩ = some x ∧ (w.alloc (.cells #[x, y, z] t)).cell? ⟨w.heap.size, 1, none⟩ = some y ∧ (w.alloc (.cells #[x, y, z] t)).cell? ⟨w.heap.size, 2, none⟩ = some z := ⟨by simp, by simp, by simp⟩

set_option maxHeartbeats 2000000 in
theorem withBlock_any (w : World) (ao : Option Addr) (n cap : Nat) (l : List Bk) (b : Bk) (h : Blks w ao n l) (hn1 : n ≤ 4096) :
    Calls Try.prog 62 #[.slice ao n cap, .agg #[.int .i64 b.a, .int .i64 b.o, .int .i64 b.t]] w fun e w' => ∃ bo c, e = .returned (.slice bo (n + 1) c) ∧
      w'.ownsRow w.heap.size 63 3 (.slice bo (n + 1) c) (n + 1) (bvals (addB l b)) ∧ Below w.heap.size w w' := by
  obtain ⟨i0, hi, hz0, hz1, hz2⟩ := info_parts info_block
  obtain ⟨hn, hr, hx⟩ := h
  obtain ⟨W0, hW0⟩ : ∃ W0, w.alloc (.cells #[.int .i64 b.a, .int .i64 b.o, .int .i64 b.t] 63) = W0 := ⟨_, rfl⟩
  have hs0 : w.heap.size + 1 ≤ W0.heap.size := by rw [← hW0]; simp
  have hb0 : Below w.heap.size w W0 := by rw [← hW0]; exact below_box _ _
  have B0 : W0.cell? ⟨w.heap.size, 0, none⟩ = some (.int .i64 b.a) := by rw [← hW0]; exact (box3 _ _ _ _ _).1
  have B1 : W0.cell? ⟨w.heap.size, 1, none⟩ = some (.int .i64 b.o) := by rw [← hW0]; exact (box3 _ _ _ _ _).2.1
  have B2 : W0.cell? ⟨w.heap.size, 2, none⟩ = some (.int .i64 b.t) := by rw [← hW0]; exact (box3 _ _ _ _ _).2.2
  have HQ : ∀ W, Below (w.heap.size + 1) W0 W → W.cell? ⟨w.heap.size, 0, none⟩ = some (.int .i64 b.a) ∧ W.cell? ⟨w.heap.size, 1, none⟩ = some (.int .i64 b.o) ∧ W.cell? ⟨w.heap.size, 2, none⟩ = some (.int .i64 b.t) ∧ BlksAt W ao l := fun W h =>
    ⟨(h.cell (p := ⟨w.heap.size, 0, none⟩) (show w.heap.size < w.heap.size + 1 by omega)).trans B0, (h.cell (p := ⟨w.heap.size, 1, none⟩) (show w.heap.size < w.heap.size + 1 by omega)).trans B1, (h.cell (p := ⟨w.heap.size, 2, none⟩) (show w.heap.size < w.heap.size + 1 by omega)).trans B2, hx.below (hb0.trans (h.mono (Nat.le_succ _)))⟩
  have HQ' : Hid _ := HQ
  clear HQ B0 B1 B2 hx
  go_enter Try.func62, Try.ntmps62
  go_wp2
  try rw [hW0]
  clear hW0
  go_loopw [5, 6, 7] (fun v dv i wr => ∃ (k m c : Nat) (bo : Option Addr) (dn : Bool), k ≤ n ∧ m ≤ k + 1 ∧ v = .slice bo m c ∧ dv = .bool dn ∧ Hid (gtB (l.take k) b = dn) ∧ i = .int .i64 k ∧ wr.ownsRow (w.heap.size + 1) 63 3 (.slice bo m c) m (bvals (outB (l.take k) b)) ∧ Below (w.heap.size + 1) W0 wr) (fun _ _ i _ => n - (intOf i).toNat)
  case atStart => exact ⟨0, 0, 0, none, false, Nat.zero_le _, by omega, rfl, rfl, rfl, rfl, World.ownsRow_nil _ _ _ _, Below.refl _ _⟩
  case round =>
    obtain ⟨k, m, c, bo, dn, hk, hm, rfl, rfl, hG, rfl, hown, hb⟩ := hrel
    obtain ⟨b0, b1, b2, hxr⟩ := HQ'.out _ hb
    by_cases hlt : k < n
    · obtain ⟨g, of, x, y, u, rfl, c1, c2, c3, hX⟩ := hxr.at k (by omega)
      have htk := take_getD l k (by omega) hX.out
      clear hxr
      have hsz := hb.size
      cases dn with
      | true =>
        have hG' : Hid (gtB (l.take (k + 1)) b = true) := by show _ = _; rw [htk, gtB_snoc, hG.out]; rfl
        have HE : Hid (bvals (outB (l.take k) b) ++ [.int .i64 x, .int .i64 y, .int .i64 u] = bvals (outB (l.take (k + 1)) b)) := by
          show _ = _
          have h1 : outB (l.take k) b = addB (l.take k) b := by unfold outB; rw [if_pos hG.out]
          have h2 : outB (l.take (k + 1)) b = addB (l.take (k + 1)) b := by unfold outB; rw [if_pos hG'.out]
          rw [h1, h2, htk, addB_snoc_t _ hG.out, bvals_append]; rfl
        clear hG htk hX
        go_wp2
        go_quiet (fail)
        have hbq := below_drawn (w := wr) nq
        have own1 := owns_below hown hbq (Nat.le_refl _)
        have hb1 := hb.trans (hbq.mono (by omega))
        replace c1 := keep c1 hbq
        replace c2 := keep c2 hbq
        replace c3 := keep c3 hbq
        obtain ⟨W1, hW1⟩ : ∃ W1, wr.drewN nq = W1 := ⟨_, rfl⟩
        rw [hW1] at own1 hb1 c1 c2 c3 ⊢
        clear hW1 hbq hown hb b0 b1 b2
        go_wp2_with (at_builtin; refine wpList_append_own _ rfl (.tmp 30) (.tmp 35) 26 rfl (w.heap.size + 1) 63 i0 (.agg #[.int .i64 0, .int .i64 0, .int .i64 0]) 3 24 Try.underlying26 hi hz0 hz1 hz2 rfl (by decide) _ _ _ rfl (own1.alloc _) ⟨W1.heap.size, 0, none⟩ 1 1 [.int .i64 x, .int .i64 y, .int .i64 u] rfl rfl ?c1 ?c2 (by unfold maxLen; omega) ?c4 ?c5 ?_)
        case c1 => exact cell_three_new _ _ _ _ _
        case c2 => exact ints_oneCell .i64 [_, _, _]
        case c4 => omega
        case c5 => have := hb1.size; simp; omega
        intro v' w3 hown' hgrow _
        have hbN : Below (w.heap.size + 1) W0 w3 := (hb1.alloc (by have := hb1.size; omega) _).grown hgrow (by have := hb1.size; simp; omega) (fun g hg => (own1.lt g hg).1)
        obtain ⟨bo', c', rfl⟩ := owns_shape hown'
        rw [HE.out] at hown'
        clear own1 hgrow hb1 c1 c2 c3
        go_wp2
        go_roundw
        case rel => exact ⟨k + 1, m + 1, c', bo', true, by omega, by omega, rfl, rfl, hG', by go_num, hown', hbN⟩
        case measure => simp [intOf]; omega
      | false =>
        have ho1 : outB (l.take k) b = l.take k := by unfold outB; rw [if_neg (by rw [hG.out]; simp)]
        by_cases hgt : b.a < x
        · have hgb : decide (b.a < x) = true := decide_eq_true hgt
          have hG' : Hid (gtB (l.take (k + 1)) b = true) := by show _ = _; rw [htk, gtB_snoc]; simp [hgt]
          have HE : Hid ((bvals (outB (l.take k) b) ++ [.int .i64 b.a, .int .i64 b.o, .int .i64 b.t]) ++ [.int .i64 x, .int .i64 y, .int .i64 u] = bvals (outB (l.take (k + 1)) b)) := by
            show _ = _
            have h2 : outB (l.take (k + 1)) b = addB (l.take (k + 1)) b := by unfold outB; rw [if_pos hG'.out]
            rw [ho1, h2, htk, addB_snoc_f hG.out hgt, bvals_append, List.append_assoc]; rfl
          have hm2 : m ≤ k := by
            have h3 := bowns_len hown
            rw [ho1, List.length_take] at h3
            omega
          clear hG htk ho1 hgt
          go_wp2
          go_quiet (fail)
          have hbq := below_drawn (w := wr) nq
          have own1 := owns_below hown hbq (Nat.le_refl _)
          have hb1 := hb.trans (hbq.mono (by omega))
          obtain ⟨W1, hW1⟩ : ∃ W1, wr.drewN nq = W1 := ⟨_, rfl⟩
          rw [hW1] at own1 hb1 ⊢
          clear hW1 hbq hown hb b0 b1 b2 c1 c2 c3
          obtain ⟨b0, b1, b2, hx1⟩ := HQ'.out _ hb1
          go_wp2_with (at_builtin; refine wpList_append_own _ rfl (.tmp 26) (.tmp 28) 26 rfl (w.heap.size + 1) 63 i0 (.agg #[.int .i64 0, .int .i64 0, .int .i64 0]) 3 24 Try.underlying26 hi hz0 hz1 hz2 rfl (by decide) _ _ _ rfl (own1.alloc _) ⟨W1.heap.size, 0, none⟩ 1 1 [.int .i64 b.a, .int .i64 b.o, .int .i64 b.t] rfl rfl ?c1 ?c2 (by unfold maxLen; omega) ?c4 ?c5 ?_)
          case c1 => exact cell_three_new _ _ _ _ _
          case c2 => exact ints_oneCell .i64 [_, _, _]
          case c4 => omega
          case c5 => have := hb1.size; simp; omega
          intro v' w3 hown' hgrow _
          have hbN : Below (w.heap.size + 1) W0 w3 := (hb1.alloc (by have := hb1.size; omega) _).grown hgrow (by have := hb1.size; simp; omega) (fun g hg => (own1.lt g hg).1)
          obtain ⟨bo', c', rfl⟩ := owns_shape hown'
          obtain ⟨b0', b1', b2', hx3⟩ := HQ'.out _ hbN
          have own3 := hown'
          have hb3 := hbN
          clear own1 hgrow hb1 b0 b1 b2 b0' b1' b2' hown' hbN hx1
          obtain ⟨g', of', x', y', u', he, c1, c2, c3, hX'⟩ := hx3.at k (by omega)
          cases he
          have hxy : (⟨x, y, u⟩ : Bk) = ⟨x', y', u'⟩ := hX.out.symm.trans hX'.out
          cases hxy
          clear hX hX' hx3
          have hsz3 := hb3.size
          go_wp2_with (at_builtin; refine wpList_append_own _ rfl (.tmp 30) (.tmp 35) 26 rfl (w.heap.size + 1) 63 i0 (.agg #[.int .i64 0, .int .i64 0, .int .i64 0]) 3 24 Try.underlying26 hi hz0 hz1 hz2 rfl (by decide) _ _ _ rfl (own3.alloc _) ⟨w3.heap.size, 0, none⟩ 1 1 [.int .i64 x, .int .i64 y, .int .i64 u] rfl rfl ?c1 ?c2 (by unfold maxLen; omega) ?c4 ?c5 ?_)
          case c1 => exact cell_three_new _ _ _ _ _
          case c2 => exact ints_oneCell .i64 [_, _, _]
          case c4 => omega
          case c5 => have := hb3.size; simp; omega
          intro v' w4 hown' hgrow _
          have hbN : Below (w.heap.size + 1) W0 w4 := (hb3.alloc (by have := hb3.size; omega) _).grown hgrow (by have := hb3.size; simp; omega) (fun g hg => (own3.lt g hg).1)
          obtain ⟨bo', c', rfl⟩ := owns_shape hown'
          replace hown' : w4.ownsRow (w.heap.size + 1) 63 3 (.slice bo' (m + 1 + 1) c') (m + 1 + 1) (bvals (outB (l.take (k + 1)) b)) := by rw [← HE.out]; simpa using hown'
          clear own3 hgrow hb3 c1 c2 c3
          go_wp2
          go_roundw
          case rel => exact ⟨k + 1, m + 1 + 1, c', bo', true, by omega, by omega, rfl, rfl, hG', by go_num, hown', hbN⟩
          case measure => simp [intOf]; omega
        · have hgb : decide (b.a < x) = false := decide_eq_false hgt
          have hG' : Hid (gtB (l.take (k + 1)) b = false) := by show _ = _; rw [htk, gtB_snoc, hG.out]; simpa using hgt
          have HE : Hid (bvals (outB (l.take k) b) ++ [.int .i64 x, .int .i64 y, .int .i64 u] = bvals (outB (l.take (k + 1)) b)) := by
            show _ = _
            have h2 : outB (l.take (k + 1)) b = l.take (k + 1) := by unfold outB; rw [if_neg (by rw [hG'.out]; simp)]
            rw [ho1, h2, htk, bvals_append]; rfl
          clear hG htk ho1 hgt hX
          go_wp2
          go_quiet (fail)
          have hbq := below_drawn (w := wr) nq
          have own1 := owns_below hown hbq (Nat.le_refl _)
          have hb1 := hb.trans (hbq.mono (by omega))
          replace c1 := keep c1 hbq
          replace c2 := keep c2 hbq
          replace c3 := keep c3 hbq
          obtain ⟨W1, hW1⟩ : ∃ W1, wr.drewN nq = W1 := ⟨_, rfl⟩
          rw [hW1] at own1 hb1 c1 c2 c3 ⊢
          clear hW1 hbq hown hb b0 b1 b2
          go_wp2_with (at_builtin; refine wpList_append_own _ rfl (.tmp 30) (.tmp 35) 26 rfl (w.heap.size + 1) 63 i0 (.agg #[.int .i64 0, .int .i64 0, .int .i64 0]) 3 24 Try.underlying26 hi hz0 hz1 hz2 rfl (by decide) _ _ _ rfl (own1.alloc _) ⟨W1.heap.size, 0, none⟩ 1 1 [.int .i64 x, .int .i64 y, .int .i64 u] rfl rfl ?c1 ?c2 (by unfold maxLen; omega) ?c4 ?c5 ?_)
          case c1 => exact cell_three_new _ _ _ _ _
          case c2 => exact ints_oneCell .i64 [_, _, _]
          case c4 => omega
          case c5 => have := hb1.size; simp; omega
          intro v' w3 hown' hgrow _
          have hbN : Below (w.heap.size + 1) W0 w3 := (hb1.alloc (by have := hb1.size; omega) _).grown hgrow (by have := hb1.size; simp; omega) (fun g hg => (own1.lt g hg).1)
          obtain ⟨bo', c', rfl⟩ := owns_shape hown'
          rw [HE.out] at hown'
          clear own1 hgrow hb1 c1 c2 c3
          go_wp2
          go_roundw
          case rel => exact ⟨k + 1, m + 1, c', bo', false, by omega, by omega, rfl, rfl, hG', by go_num, hown', hbN⟩
          case measure => simp [intOf]; omega
    · obtain rfl : k = n := by omega
      have htk : l.take k = l := List.take_of_length_le (by omega)
      rw [htk] at hown hG
      have hsz := hb.size
      cases dn with
      | true =>
        have h1 : outB l b = addB l b := by unfold outB; rw [if_pos hG.out]
        rw [h1] at hown
        have hmn : m = k + 1 := by
          have h3 := bowns_len hown
          rw [addB_len] at h3
          omega
        subst hmn
        clear hG h1 htk
        go_wp2
        go_ret
        exact ⟨bo, c, rfl, owns_weaken hown (Nat.le_succ _), hb0.trans (hb.mono (Nat.le_succ _))⟩
      | false =>
        have h1 : outB l b = l := by unfold outB; rw [if_neg (by rw [hG.out]; simp)]
        have HE : Hid (bvals (outB l b) ++ [.int .i64 b.a, .int .i64 b.o, .int .i64 b.t] = bvals (addB l b)) := by
          show _ = _
          rw [h1, addB_none hG.out, bvals_append]; rfl
        have hmn : m = k := by
          have h3 := bowns_len hown
          rw [h1] at h3
          omega
        subst hmn
        clear hG h1 htk
        go_wp2_with (at_builtin; refine wpList_append_own _ rfl (.tmp 39) (.tmp 41) 26 rfl (w.heap.size + 1) 63 i0 (.agg #[.int .i64 0, .int .i64 0, .int .i64 0]) 3 24 Try.underlying26 hi hz0 hz1 hz2 rfl (by decide) _ _ _ rfl (hown.alloc _) ⟨wr.heap.size, 0, none⟩ 1 1 [.int .i64 b.a, .int .i64 b.o, .int .i64 b.t] rfl rfl ?c1 ?c2 (by unfold maxLen; omega) ?c4 ?c5 ?_)
        case c1 => exact cell_three_new _ _ _ _ _
        case c2 => exact ints_oneCell .i64 [_, _, _]
        case c4 => omega
        case c5 => have := hb.size; simp; omega
        intro v' w3 hown' hgrow _
        have hbN : Below (w.heap.size + 1) W0 w3 := (hb.alloc (by have := hb.size; omega) _).grown hgrow (by have := hb.size; simp; omega) (fun g hg => (hown.lt g hg).1)
        obtain ⟨bo', c', rfl⟩ := owns_shape hown'
        rw [HE.out] at hown'
        clear hgrow
        go_wp2
        go_ret
        exact ⟨bo', c', rfl, owns_weaken hown' (Nat.le_succ _), hb0.trans (hbN.mono (Nat.le_succ _))⟩

end Go.Proofs.Ytbjlbmofdnkmiaa

/-
  OWN TEXT. Contracts of the document's answer: BackOf.
-/
namespace Go.Proofs.Ytbjlbmofdnkmiaa
open Go Go.RowKit Go.Proofs.Ytbjlbmofdnkmiaa.Kit

/-- The world in the midst of BackOf: its argument's box, the result's block, and what can be read. -/
structure BaInv (w : World) (fo : Option Addr) (fn fc : Nat) (to_ : Option Addr) (tn tc : Nat) (z : Zn) (W : World) : Prop where
  size : w.heap.size + 2 ≤ W.heap.size
  b : Below w.heap.size w W
  box : ZBox W w.heap.size (.int .i64 z.f) (.int .i64 z.t) (.slice fo fn fc) (.slice to_ tn tc)
  res : Res4 W (w.heap.size + 1)
  zn : ZnAt W fo fn to_ tn z

theorem BaInv.step {w : World} {fo : Option Addr} {fn fc : Nat} {to_ : Option Addr} {tn tc : Nat} {z : Zn} {W W' : World} (h : BaInv w fo fn fc to_ tn tc z W) (hb : Below W.heap.size W W') : BaInv w fo fn fc to_ tn tc z W' :=
  ⟨Nat.le_trans h.size hb.size, h.b.trans (hb.mono h.b.size), h.box.below hb, h.res.below hb, h.zn.below hb⟩

theorem baInv_first (w : World) (fo : Option Addr) (fn fc : Nat) (to_ : Option Addr) (tn tc : Nat) (z : Zn) (h : ZnAt w fo fn to_ tn z) :
    BaInv w fo fn fc to_ tn tc z ((w.alloc (.cells #[.int .i64 z.f, .int .i64 z.t, .slice fo fn fc, .slice to_ tn tc] 44)).alloc (.cells #[.int .i64 0, .int .i64 0, .slice none 0 0, .slice none 0 0] 44)) := by
  have hb2 : Below w.heap.size w ((w.alloc (.cells #[.int .i64 z.f, .int .i64 z.t, .slice fo fn fc, .slice to_ tn tc] 44)).alloc (.cells #[.int .i64 0, .int .i64 0, .slice none 0 0, .slice none 0 0] 44)) := ((Below.refl _ _).alloc (Nat.le_refl _) _).alloc (by simp) _
  have R0 : Res4 ((w.alloc (.cells #[.int .i64 z.f, .int .i64 z.t, .slice fo fn fc, .slice to_ tn tc] 44)).alloc (.cells #[.int .i64 0, .int .i64 0, .slice none 0 0, .slice none 0 0] 44)) (w.heap.size + 1) := by
    have := zbox_new (w.alloc (.cells #[.int .i64 z.f, .int .i64 z.t, .slice fo fn fc, .slice to_ tn tc] 44)) (.int .i64 0) (.int .i64 0) (.slice none 0 0) (.slice none 0 0) 44
    have h2 := this.res
    simpa using h2
  exact ⟨by simp, hb2, (zbox_new w _ _ _ _ _).below (below_box _ _), R0, h.below hb2⟩

set_option maxHeartbeats 2000000 in
theorem backOf_no (w : World) (fo : Option Addr) (fn fc : Nat) (to_ : Option Addr) (tn tc : Nat) (z : Zn) (a o : Int) (h : ZnAt w fo fn to_ tn z) (hM : ¬ ZMay z) :
    Calls Try.prog 27 #[.agg #[.int .i64 z.f, .int .i64 z.t, .slice fo fn fc, .slice to_ tn tc], .int .i64 a, .int .i64 o] w fun e w' => RetNone 8 e ∧ Below w.heap.size w w' := by
  have I0 := baInv_first w fo fn fc to_ tn tc z h
  have c0 := I0.box.c0
  have c1 := I0.box.c1
  have c2 := I0.box.c2
  have c3 := I0.box.c3
  clear h
  go_enter Try.func27, Try.ntmps27
  go_wp2_with fail
  go_at_call 36
  refine (zoneMay_any _ fo fn fc to_ tn tc z I0.zn).mono ?_
  rintro e w1 ⟨⟨r, rfl, hr⟩, hb1⟩
  have I1 := I0.step hb1
  obtain rfl : r = false := by
    cases r with
    | false => rfl
    | true => exact absurd (hr.1 rfl) hM
  have R1 := I1.res
  obtain ⟨⟨x0, d0⟩, ⟨x1, d1⟩, ⟨x2, d2⟩, ⟨x3, d3⟩, z0, z1, z2, z3⟩ := id R1
  have hB := I1.b
  have hs := I1.size
  clear hr hM I0 I1 hb1 c0 c1 c2 c3
  go_wp2
  obtain ⟨k0, k1, k2, k3⟩ := res4 R1 (.int .i64 0) (.int .i64 0) (.slice none 0 0) (.slice none 0 0)
  have hbt := but4 w1 (w.heap.size + 1) (.int .i64 0) (.int .i64 0) (.slice none 0 0) (.slice none 0 0)
  exact bodyPost_ret (v := .tuple #[.agg #[.int .i64 0, .int .i64 0, .slice none 0 0, .slice none 0 0], .int .i64 8]) (by simp [results, Try.results27, go_sem, k0, k1, k2, k3]) rfl ⟨rfl, hB.trans (hbt.below (by omega) (by omega))⟩


theorem may_nums {z : Zn} (h : ZMay z) : ∀ i, i < z.free.length → ordOk (z.free.getD i .zero).o ∧ 0 ≤ (z.free.getD i .zero).a ∧ (z.free.getD i .zero).a ≤ 256 := fun i hi => by
  obtain ⟨⟨h1, h2, h3, h4⟩, _⟩ := freeOk_at h.free hi rfl
  obtain ⟨g1, g2, g3, g4, g5⟩ := h.new
  exact ⟨h1, by omega, by omega⟩

set_option maxHeartbeats 2000000 in
theorem backOf_range (w : World) (fo : Option Addr) (fn fc : Nat) (to_ : Option Addr) (tn tc : Nat) (z : Zn) (a o : Int) (h : ZnAt w fo fn to_ tn z) (hM : ZMay z) (ho : ¬ blkIn z.f z.t a o) :
    Calls Try.prog 27 #[.agg #[.int .i64 z.f, .int .i64 z.t, .slice fo fn fc, .slice to_ tn tc], .int .i64 a, .int .i64 o] w fun e w' => RetNone 1 e ∧ Below w.heap.size w w' := by
  have I0 := baInv_first w fo fn fc to_ tn tc z h
  have c0 := I0.box.c0
  have c1 := I0.box.c1
  have c2 := I0.box.c2
  have c3 := I0.box.c3
  clear h
  go_enter Try.func27, Try.ntmps27
  go_wp2_with fail
  go_at_call 36
  refine (zoneMay_any _ fo fn fc to_ tn tc z I0.zn).mono ?_
  rintro e w1 ⟨⟨r, rfl, hr⟩, hb1⟩
  have I1 := I0.step hb1
  obtain rfl : r = true := hr.2 hM
  replace c0 := I1.box.c0
  replace c1 := I1.box.c1
  replace c2 := I1.box.c2
  replace c3 := I1.box.c3
  clear hr I0 hb1
  go_wp2_with fail
  go_at_call 61
  refine (blockMay_any _ z.f z.t fo to_ fn fc tn tc a o hM.new).mono ?_
  rintro e w2 ⟨rfl, hb2⟩
  have I2 := I1.step hb2
  clear I1 hb2
  have hB2 : blkB z.f z.t a o = false := by
    cases hb : blkB z.f z.t a o with
    | false => rfl
    | true => exact absurd ((blkB_iff z.f z.t a o).1 hb) ho
  rw [hB2]
  have R1 := I2.res
  obtain ⟨⟨x0, d0⟩, ⟨x1, d1⟩, ⟨x2, d2⟩, ⟨x3, d3⟩, z0, z1, z2, z3⟩ := id R1
  have hB := I2.b
  have hs := I2.size
  clear hM I2 c0 c1 c2 c3 ho hB2
  go_wp2
  obtain ⟨k0, k1, k2, k3⟩ := res4 R1 (.int .i64 0) (.int .i64 0) (.slice none 0 0) (.slice none 0 0)
  have hbt := but4 w2 (w.heap.size + 1) (.int .i64 0) (.int .i64 0) (.slice none 0 0) (.slice none 0 0)
  exact bodyPost_ret (v := .tuple #[.agg #[.int .i64 0, .int .i64 0, .slice none 0 0, .slice none 0 0], .int .i64 1]) (by simp [results, Try.results27, go_sem, k0, k1, k2, k3]) rfl ⟨rfl, hB.trans (hbt.below (by omega) (by omega))⟩

set_option maxHeartbeats 2000000 in
theorem backOf_twice (w : World) (fo : Option Addr) (fn fc : Nat) (to_ : Option Addr) (tn tc : Nat) (z : Zn) (a o : Int) (h : ZnAt w fo fn to_ tn z) (hM : ZMay z) (ho : blkIn z.f z.t a o) (hv : ovlP z.free a o) :
    Calls Try.prog 27 #[.agg #[.int .i64 z.f, .int .i64 z.t, .slice fo fn fc, .slice to_ tn tc], .int .i64 a, .int .i64 o] w fun e w' => RetNone 5 e ∧ Below w.heap.size w w' := by
  have I0 := baInv_first w fo fn fc to_ tn tc z h
  have c0 := I0.box.c0
  have c1 := I0.box.c1
  have c2 := I0.box.c2
  have c3 := I0.box.c3
  clear h
  go_enter Try.func27, Try.ntmps27
  go_wp2_with fail
  go_at_call 36
  refine (zoneMay_any _ fo fn fc to_ tn tc z I0.zn).mono ?_
  rintro e w1 ⟨⟨r, rfl, hr⟩, hb1⟩
  have I1 := I0.step hb1
  obtain rfl : r = true := hr.2 hM
  replace c0 := I1.box.c0
  replace c1 := I1.box.c1
  replace c2 := I1.box.c2
  replace c3 := I1.box.c3
  clear hr I0 hb1
  go_wp2_with fail
  go_at_call 61
  refine (blockMay_any _ z.f z.t fo to_ fn fc tn tc a o hM.new).mono ?_
  rintro e w2 ⟨rfl, hb2⟩
  have I2 := I1.step hb2
  clear I1 hb2
  rw [(blkB_iff z.f z.t a o).2 ho]
  replace c2 := I2.box.c2
  obtain ⟨n1, n2, n3, n4, n5⟩ := hM.new
  have HO := overlaps_any w2 fo fn fc z.free a o I2.zn.free (may_nums hM) ho.1 (by have := ho.2.1; omega) (by have := ho.2.2.1; omega)
  clear c0 c1 c3
  go_wp2_with fail
  go_at_call 38
  refine HO.mono ?_
  rintro e w3 ⟨⟨r, rfl, hr⟩, d, rfl⟩
  obtain rfl : r = true := hr.2 hv
  have I3 := I2.step (below_drawn d)
  obtain ⟨W3, hW3⟩ : ∃ W3, w2.drewN d = W3 := ⟨_, rfl⟩
  rw [hW3] at I3 ⊢
  have R1 := I3.res
  obtain ⟨⟨x0, d0⟩, ⟨x1, d1⟩, ⟨x2, d2⟩, ⟨x3, d3⟩, z0, z1, z2, z3⟩ := id R1
  have hB := I3.b
  have hs := I3.size
  clear hM I2 I3 c2 ho hv hr HO hW3
  go_wp2
  obtain ⟨k0, k1, k2, k3⟩ := res4 R1 (.int .i64 0) (.int .i64 0) (.slice none 0 0) (.slice none 0 0)
  have hbt := but4 W3 (w.heap.size + 1) (.int .i64 0) (.int .i64 0) (.slice none 0 0) (.slice none 0 0)
  exact bodyPost_ret (v := .tuple #[.agg #[.int .i64 0, .int .i64 0, .slice none 0 0, .slice none 0 0], .int .i64 5]) (by simp [results, Try.results27, go_sem, k0, k1, k2, k3]) rfl ⟨rfl, hB.trans (hbt.below (by omega) (by omega))⟩

end Go.Proofs.Ytbjlbmofdnkmiaa
