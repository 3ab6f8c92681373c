/-
  OWN TEXTS, bundled: ScCopy, SameI, SameZ, SameH.
-/
import Derived.Test.YtnijjpakpphhhaaSlabCopiesPart7
import Derived.Test.YtnijjpakpphhhaaSlabCopiesPart8
import Derived.Test.YtnijjpakpphhhaaSlabCopiesPart9
import Derived.Test.YtnijjpakpphhhaaSlabCopiesPart3
import Derived.Test.YtnijjpakpphhhaaSlabCopiesPart2
import Derived.Test.YtnijjpakpphhhaaSlabCopiesPart4

/-
  OWN TEXT. Contract of the code: slab.Copy (written by sxsy.py).
-/
namespace Go.Proofs.Ytnijjpakpphhhaa
open Go Go.RowKit Go.Proofs.Ytnijjpakpphhhaa.Kit

/-- A system's cells out of its words, its heap, its caches. -/
def sysV (a b c : Value) : Value := .agg (#[a] ++ b.cells ++ #[c])
theorem drawn_s {w w' : World} (h : ({ w with drawn := w.drawn + 1 } : World) = w') : Below w.heap.size w w' := by
  subst h
  exact (Below.refl w.heap.size w).drew
theorem g_storeR {P : Program} {Q : Exit → Act → World → Prop} {N : Nat} {A : Act} {L : List (Nat × Value)} {o : Oper} {w : World} {K : Act → World → Prop} {t : TypeId} {x y : Operand} {p : Addr} {v : Value} {R : World → Prop} (f : Fr A N L) (hd : o.dst = none) (ho : o.op = .store t x y) (hx : ev L x = some (.pointer (some p))) (hy : ev L y = some v)
    (hr : ∃ W, (storeVar t p v).run P w = .ok () W ∧ R W) (h : ∀ W, R W → K A W) : o.wp P A w K Q := by
  obtain ⟨W, hrun, hR⟩ := storeR_run (P := P) f ho hx hy hr
  unfold Oper.wp
  rw [hrun, Oper.upon_skip, hd]
  exact h W hR

set_option maxRecDepth 10000 in
set_option maxHeartbeats 4000000 in
theorem slCopy_c (w : World) (x : Sy) (hx : x.At w) :
    Calls Try.prog 8 #[.agg #[.slice x.wo x.wn x.wc, .slice x.h.zo x.h.zn x.h.zc, .slice x.h.mo x.h.mn x.h.mc, .int .i64 x.h.cpus, .slice x.h.lo x.h.ln x.h.lc, .slice x.h.vo x.h.vn x.h.vc, .slice x.co x.cn x.cc]] w fun e w' => (∃ y : Sy, e = .returned (.agg #[.slice y.wo y.wn y.wc, .slice y.h.zo y.h.zn y.h.zc, .slice y.h.mo y.h.mn y.h.mc, .int .i64 y.h.cpus, .slice y.h.lo y.h.ln y.h.lc, .slice y.h.vo y.h.vn y.h.vc, .slice y.co y.cn y.cc]) ∧ SyO w.heap.size w' y ∧ y.sp = x.sp ∧ y.wn = x.wn ∧ y.cn = x.cn) ∧ Below w.heap.size w w' := by
  have B0 := Below.refl w.heap.size w
  refine sx_enter (args := [_]) 39 Try.func8 rfl rfl rfl ?_
  intro A f
  refine wp_seq ?_
  refine sx_list ?_
  refine l_box f rfl rfl rfl rfl rfl ?_; clear f A; intro b1 W2 eb1 hb3 rb1 A f; dsimp only [Value.cells] at rb1
  have z_B0_b1 := B0.size; rw [eb1] at z_B0_b1
  replace B0 := Below.next B0 hb3
  refine l_alloc (z := .agg #[.slice none 0 0, .slice none 0 0, .slice none 0 0, .int .i64 0, .slice none 0 0, .slice none 0 0, .slice none 0 0]) f rfl rfl rfl rfl (by kernel_rfl) ?_; clear f A; intro b4 W5 eb4 hb6 rb4 A f; dsimp only [Value.cells] at rb4
  have o_b1_b4 : b1 < b4 := by have := row_lt rb1; omega
  have z_B0_b4 := B0.size; rw [eb4] at z_B0_b4
  replace B0 := Below.next B0 hb6; replace rb1 := row_next rb1 hb6
  refine wpList_nil ?_
  refine x_tn ?_
  refine wp_seq ?_
  have hwr := hx.words.reach
  have hcr := hx.caches.reach
  refine sx_growj (n := 13) [fun v _ _ _ _ => v = .pointer (some ⟨b1, 0 + 0, none⟩), fun v _ _ _ _ => v = .slice x.wo x.wn x.wc, fun v _ _ _ _ => v = .int .i64 (x.wn : Nat), fun v _ lo hi w => ∃ (g : Nat) (M : List Value), v = .slice (some ⟨g, 0, none⟩) x.wn x.wn ∧ w.heap[g]? = some (.cells M.toArray 3 (0, 0)) ∧ M.length = x.wn * 1 ∧ lo ≤ g ∧ g < hi ∧ W5.heap.size ≤ g, fun v _ _ _ _ => v = .pointer (some ⟨b1, 0 + 1, none⟩), fun v _ _ _ _ => v = .agg #[.slice x.h.zo x.h.zn x.h.zc, .slice x.h.mo x.h.mn x.h.mc, .int .i64 x.h.cpus, .slice x.h.lo x.h.ln x.h.lc, .slice x.h.vo x.h.vn x.h.vc], fun v _ lo hi w => ∃ y : Hx, v = .agg #[.slice y.zo y.zn y.zc, .slice y.mo y.mn y.mc, .int .i64 y.cpus, .slice y.lo y.ln y.lc, .slice y.vo y.vn y.vc] ∧ y.At w ∧ y.hp = x.h.hp ∧ (∀ b, (b < lo ∨ hi ≤ b) → OffH b y) ∧ W5.heap.size ≤ lo, fun v _ _ _ _ => v = .pointer (some ⟨b1, 0 + 6, none⟩), fun v _ _ _ _ => v = .slice x.co x.cn x.cc, fun v _ _ _ _ => v = .int .i64 (x.cn : Nat), fun v _ lo hi w => ∃ (g : Nat) (M : List Value), v = .slice (some ⟨g, 0, none⟩) x.cn x.cn ∧ w.heap[g]? = some (.cells M.toArray 45 (0, 0)) ∧ M.length = x.cn * 6 ∧ lo ≤ g ∧ g < hi ∧ W5.heap.size ≤ g, fun v vs _ _ _ => ∃ v1 v2 v3, vs = [v1, v2, v3] ∧ v = sysV v1 v2 v3, fun v _ lo hi w => ∃ b, v = .pointer (some ⟨b, 0, none⟩) ∧ w.heap[b]? = some (.cells #[.slice none 0 0, .slice none 0 0, .slice none 0 0, .int .i64 0, .slice none 0 0, .slice none 0 0, .slice none 0 0] 30 (0, 0)) ∧ lo ≤ b ∧ b < hi ∧ W5.heap.size ≤ b] (fun wx => Below W5.heap.size W5 wx) f (by kernel_rfl) (by kernel_rfl) rfl (by kernel_rfl) (fun _ _ h hb => Below.next h hb) (rj_all ?_) ((Below.refl _ _).drew) ?_ ?_
  · intro r hr
    simp only [List.mem_cons, List.not_mem_nil, or_false] at hr
    rcases hr with rfl | rfl | rfl | rfl | rfl | rfl | rfl | rfl | rfl | rfl | rfl | rfl | rfl
    · exact fun _ _ _ _ _ _ h _ => h
    · exact fun _ _ _ _ _ _ h _ => h
    · exact fun _ _ _ _ _ _ h _ => h
    · rintro v vs lo hi w1 w2 ⟨g, M, e1, h1, h2⟩ hb; exact ⟨g, M, e1, row_next h1 hb, h2⟩
    · exact fun _ _ _ _ _ _ h _ => h
    · exact fun _ _ _ _ _ _ h _ => h
    · rintro v vs lo hi w1 w2 ⟨y, e1, h1, h2⟩ hb; exact ⟨y, e1, h1.below hb, h2⟩
    · exact fun _ _ _ _ _ _ h _ => h
    · exact fun _ _ _ _ _ _ h _ => h
    · exact fun _ _ _ _ _ _ h _ => h
    · rintro v vs lo hi w1 w2 ⟨g, M, e1, h1, h2⟩ hb; exact ⟨g, M, e1, row_next h1 hb, h2⟩
    · exact fun _ _ _ _ _ _ h _ => h
    · rintro v vs lo hi w1 w2 ⟨b, e1, h1, h2⟩ hb; exact ⟨b, e1, row_next h1 hb, h2⟩
  · refine ⟨?_, ?_, ?_, ?_, ?_, ?_, ?_, ?_, ?_, ?_, ?_, ?_, ?_, trivial⟩
    · intro a w1 hS g hd K hK
      exact g_val g (y_field rfl rfl (fo rfl)) (hK _ _ (Below.refl _ _) rfl)
    · intro a w1 hS g hd K hK
      obtain ⟨⟨_, _, h0⟩, -⟩ := hd
      replace g := g.more (d := 6) h0
      exact g_val g (y_load1 rfl rfl (ag rfl) (rowl (rowq (row_next rb1 hS)) rfl)) (hK _ _ (Below.refl _ _) rfl)
    · intro a w1 hS g hd K hK
      obtain ⟨⟨_, _, h0⟩, -⟩ := hd
      replace g := g.more (d := 7) h0
      exact g_val g (y_len rfl rfl (sl rfl)) (hK _ _ (Below.refl _ _) rfl)
    · intro a w1 hS g hd K hK
      obtain ⟨⟨_, _, h0⟩, -⟩ := hd
      replace g := g.more (d := 8) h0
      obtain ⟨M, hM, hrun⟩ := makes_ints (n := x.wn) hwr
      refine g_opR (R := fun v W => v = .slice (some ⟨w1.heap.size, 0, none⟩) x.wn x.wn ∧ W = w1.alloc (.cells M 3)) ⟨_, _, make_exec g rfl rfl rfl (hrun w1), rfl, rfl⟩ ?_
      rintro _ _ ⟨rfl, rfl⟩
      exact hK _ _ ((Below.refl _ _).alloc (Nat.le_refl _) _) ⟨w1.heap.size, M.toList, rfl, by rw [Array.toArray_toList]; exact heap_alloc_new _ _, by simpa using hM, Nat.le_refl _, by show _ < (Array.push _ _).size; simp, hS.size⟩
    · intro a w1 hS g hd K hK
      exact g_val g (y_field rfl rfl (fo rfl)) (hK _ _ (Below.refl _ _) rfl)
    · intro a w1 hS g hd K hK
      obtain ⟨⟨_, _, h0⟩, -⟩ := hd
      replace g := g.more (d := 10) h0
      exact g_val g (y_loadN (vs := [_, _, _, _, _]) rfl rfl (ag rfl) rfl (rowls (rowq (row_next rb1 hS)) _ _ ⟨rfl, rfl, rfl, rfl, rfl, trivial⟩)) (hK _ _ (Below.refl _ _) rfl)
    · intro a w1 hS g hd K hK
      obtain ⟨⟨_, _, h0⟩, -⟩ := hd
      replace g := g.more (d := 11) h0
      refine g_call g (IsCall.mk' (cap := []) rfl rfl rfl) (pl rfl) (pCopy_own w1 x.h (hx.heap.below (Below.next B0 hS))) ?_
      rintro e w2 ⟨⟨gz, gl, gv, y, rfl, hyp, hO⟩, hb⟩
      exact ⟨_, rfl, hK _ _ hb ⟨y, rfl, hO.at_, hyp, fun b hb' => hb'.elim (fun h => hO.offH h) (fun h => offH_old hO.at_ h), hS.size⟩⟩
    · intro a w1 hS g hd K hK
      exact g_val g (y_field rfl rfl (fo rfl)) (hK _ _ (Below.refl _ _) rfl)
    · intro a w1 hS g hd K hK
      obtain ⟨⟨_, _, h0⟩, -⟩ := hd
      replace g := g.more (d := 13) h0
      exact g_val g (y_load1 rfl rfl (ag rfl) (rowl (rowq (row_next rb1 hS)) rfl)) (hK _ _ (Below.refl _ _) rfl)
    · intro a w1 hS g hd K hK
      obtain ⟨⟨_, _, h0⟩, -⟩ := hd
      replace g := g.more (d := 14) h0
      exact g_val g (y_len rfl rfl (sl rfl)) (hK _ _ (Below.refl _ _) rfl)
    · intro a w1 hS g hd K hK
      obtain ⟨⟨_, _, h0⟩, -⟩ := hd
      replace g := g.more (d := 15) h0
      obtain ⟨M, hM, hrun⟩ := makes_caches (n := x.cn) hcr
      refine g_opR (R := fun v W => v = .slice (some ⟨w1.heap.size, 0, none⟩) x.cn x.cn ∧ W = w1.alloc (.cells M 45)) ⟨_, _, make_exec g rfl rfl rfl (hrun w1), rfl, rfl⟩ ?_
      rintro _ _ ⟨rfl, rfl⟩
      exact hK _ _ ((Below.refl _ _).alloc (Nat.le_refl _) _) ⟨w1.heap.size, M.toList, rfl, by rw [Array.toArray_toList]; exact heap_alloc_new _ _, by simpa using hM, Nat.le_refl _, by show _ < (Array.push _ _).size; simp, hS.size⟩
    · intro a w1 hS g hd K hK
      obtain ⟨⟨_, _, g1, M1, h0, -⟩, ⟨_, _, y, h1, -⟩, ⟨_, _, g2, M2, h2, -⟩, -⟩ := hd
      have g3 := ((g.more (d := 9) h0).more (d := 12) h1).more (d := 16) h2
      exact g_val g3 (y_build #[.slice (some ⟨g1, 0, none⟩) x.wn x.wn, .slice y.zo y.zn y.zc, .slice y.mo y.mn y.mc, .int .i64 y.cpus, .slice y.lo y.ln y.lc, .slice y.vo y.vn y.vc, .slice (some ⟨g2, 0, none⟩) x.cn x.cn] rfl rfl (by kernel_rfl)) (hK _ _ (Below.refl _ _) ⟨_, _, _, rfl, by first | rfl | (rw [h0, h1, h2]; rfl)⟩)
    · intro a w1 hS g hd K hK
      exact g_alloc (z := .agg #[.slice none 0 0, .slice none 0 0, .slice none 0 0, .int .i64 0, .slice none 0 0, .slice none 0 0, .slice none 0 0]) rfl (by kernel_rfl) (fun b W1 e1 hb hr => hK _ _ hb ⟨b, rfl, hr, Nat.le_of_eq e1, row_lt hr, by rw [← e1]; exact hS.size⟩)
  · intro a w1 G
    have hS := G.s
    obtain ⟨I, hI, hJ⟩ := G.r
    obtain ⟨g1, M1, e3, r1, l1, p1, q1, t1⟩ := (hI 3 rfl).1
    obtain ⟨y, e6, hy, hyp, hyo, t6⟩ := (hI 6 rfl).1
    obtain ⟨g2, M2, e10, r2, l2, p2, q2, t2⟩ := (hI 10 rfl).1
    obtain ⟨v1, v2, v3, e11, e11'⟩ := (hI 11 rfl).1
    obtain ⟨b3, e12, rb3, p3, q3, t3⟩ := (hI 12 rfl).1
    have j1 := hJ 3 6 rfl rfl (by decide)
    have j2 := hJ 3 10 rfl rfl (by decide)
    have j3 := hJ 3 12 rfl rfl (by decide)
    have j4 := hJ 6 10 rfl rfl (by decide)
    have j5 := hJ 6 12 rfl rfl (by decide)
    have j6 := hJ 10 12 rfl rfl (by decide)
    have lo3 := (hI 3 rfl).2
    have e9 : [slotV _ a 3, slotV _ a 6, slotV _ a 10] = [v1, v2, v3] := e11
    simp only [List.cons.injEq, and_true] at e9
    obtain ⟨k1, k2, k3⟩ := e9
    rw [e3] at k1
    rw [e6] at k2
    rw [e10] at k3
    subst k1 k2 k3
    have ne12 : g1 ≠ g2 := by omega
    have ne13 : g1 ≠ b3 := by omega
    have ne23 : g2 ≠ b3 := by omega
    have o1 := hyo g1 (by omega)
    have o2 := hyo g2 (by omega)
    have o3 := hyo b3 (by omega)
    have o4 := hyo b4 (by have := row_lt rb4; omega)
    have hg : w.heap.size ≤ g1 ∧ w.heap.size ≤ g2 ∧ b1 < g1 ∧ b4 < g1 ∧ b1 < g2 ∧ b4 < g2 ∧ w.heap.size ≤ b3 ∧ b1 < b3 ∧ b4 < b3 := by have := B0.size; have := row_lt rb1; have := row_lt rb4; omega
    have g := (G.f.more (d := 3) e12).more (d := 17) (show _ = Value.agg #[.slice (some ⟨g1, 0, none⟩) x.wn x.wn, .slice y.zo y.zn y.zc, .slice y.mo y.mn y.mc, .int .i64 y.cpus, .slice y.lo y.ln y.lc, .slice y.vo y.vn y.vc, .slice (some ⟨g2, 0, none⟩) x.cn x.cn] from e11')
    show Oper.wp _ _ _ _ _ _
    refine g_store g rfl rfl rfl rfl rb3 (sz rfl) rfl (Nat.le_of_ble_eq_true rfl) rfl ?_
    intro W7 hbt rb3'
    dsimp only [setL, over, Value.cells] at rb3'
    replace B0 : Below w.heap.size w W7 := Below.thenBut (Below.next B0 hS) hbt (by omega)
    replace rb1 := But.row hbt (row_next rb1 hS) (by omega)
    replace rb4 := But.row hbt (row_next rb4 hS) (by omega)
    replace r1 := But.row hbt r1 ne13
    replace r2 := But.row hbt r2 ne23
    replace hy := o3.but hy hbt
    clear rb3 hbt hS e3 e6 e10 e11 e11' e12 hI hJ G f
    clear A
    revert g
    revert a
    intro A f
    show Exit.then _ _ .normal A W7
    refine x_tn ?_
    refine wp_seq ?_
    refine sx_list ?_
    refine l_do f rfl rfl rfl (y_field rfl rfl (fo rfl)) ?_; clear f A; intro A f
    refine l_do f rfl rfl rfl (y_load1 rfl rfl (ag rfl) (rowl (rowq rb3') rfl)) ?_; clear f A; intro A f
    refine l_do f rfl rfl rfl (y_field rfl rfl (fo rfl)) ?_; clear f A; intro A f
    refine l_do f rfl rfl rfl (y_load1 rfl rfl (ag rfl) (rowl (rowq rb1) rfl)) ?_; clear f A; intro A f
    refine l_opR (R := fun v W => v = goInt x.wn ∧ But g1 W7 W ∧ W.heap[g1]? = some (.cells (vals x.words).toArray 3 (0, 0))) f rfl rfl rfl (by obtain ⟨W, k1, k2, k3⟩ := copy_run (P := Try.prog) (dT := 22) (sT := 22) (ty := 3) Try.underlying22 (sz rfl) r1 l1 (by simp [vals, hx.words.len]) (fun h0 => nums_src (hx.words.below B0) h0) (ints_oneCell .i64 _); exact ⟨_, W, copy_exec f rfl rfl rfl k1, rfl, k2, k3⟩) ?_
    clear f A r1; rintro _ W7 ⟨rfl, hb8, r1⟩ A f
    replace B0 := Below.thenBut B0 hb8 (by omega); replace rb1 := But.row hb8 rb1 (by omega); replace rb4 := But.row hb8 rb4 (by omega); replace rb3' := But.row hb8 rb3' (by omega); replace r2 := But.row hb8 r2 (by omega); replace hy := o1.but hy hb8
    refine wpList_nil ?_
    refine x_tn ?_
    refine wp_seq ?_
    refine wp_seq ?_
    refine sx_list ?_
    refine l_do f rfl rfl rfl (y_field rfl rfl (fo rfl)) ?_; clear f A; intro A f
    refine l_do f rfl rfl rfl (y_load1 rfl rfl (ag rfl) (rowl (rowq rb1) rfl)) ?_; clear f A; intro A f
    refine l_do f rfl rfl rfl (y_len rfl rfl (sl rfl)) ?_; clear f A; intro A f
    refine l_do f rfl rfl rfl (y_move rfl rfl) ?_; clear f A; intro A f
    refine wpList_nil ?_
    refine x_tn ?_
    refine wp_block ?_
    have HI : ScI w.heap.size W7 x 0 g1 g2 M2 y [] := ⟨r1, by rw [Nat.zero_mul, List.drop_zero]; exact r2, hy, fun c hc => (by cases hc), rfl, List.nodup_nil, fun b hb => (by cases hb), o1, o2⟩
    clear r1 r2 hy
    have hcl := hx.caches.len
    refine x_loop (fun n A W => ∃ (k : Nat) (ds : List Cc), n = x.cn - k ∧ k ≤ x.cn ∧ Fr A 39 [(1, .pointer (some ⟨b1, 0, none⟩)), (2, .pointer (some ⟨b4, 0, none⟩)), (3, .pointer (some ⟨b3, 0, none⟩)), (24, .slice x.co x.cn x.cc), (25, .int .i64 (x.cn : Nat)), (26, .int .i64 (k : Nat))] ∧ Below w.heap.size w W ∧ W.heap[b1]? = some (.cells #[.slice x.wo x.wn x.wc, .slice x.h.zo x.h.zn x.h.zc, .slice x.h.mo x.h.mn x.h.mc, .int .i64 x.h.cpus, .slice x.h.lo x.h.ln x.h.lc, .slice x.h.vo x.h.vn x.h.vc, .slice x.co x.cn x.cc] 30 (0, 0)) ∧ W.heap[b4]? = some (.cells #[.slice none 0 0, .slice none 0 0, .slice none 0 0, .int .i64 0, .slice none 0 0, .slice none 0 0, .slice none 0 0] 30 (0, 0)) ∧ W.heap[b3]? = some (.cells #[.slice (some ⟨g1, 0, none⟩) x.wn x.wn, .slice y.zo y.zn y.zc, .slice y.mo y.mn y.mc, .int .i64 y.cpus, .slice y.lo y.ln y.lc, .slice y.vo y.vn y.vc, .slice (some ⟨g2, 0, none⟩) x.cn x.cn] 30 (0, 0)) ∧ ScI w.heap.size W x k g1 g2 M2 y ds ∧ (∀ b ∈ ds.flatMap Cc.blks, b3 < b)) (n0 := x.cn) (⟨0, [], rfl, Nat.zero_le _, f.sub ⟨rfl, rfl, rfl, rfl, rfl, rfl, trivial⟩, B0, rb1, rb4, rb3', HI, fun b hb => by cases hb⟩) ?_
    clear f A
    clear B0 HI rb1 rb4 rb3'
    rintro n A W9 ⟨k, ds, hn, hk, f, B0, rb1, rb4, rb3', HI, hdb⟩
    refine wp_seq ?_
    refine sx_list ?_
    refine l_if _ f rfl rfl rfl (y_lss rfl rfl rfl) ?_ ?_
    · clear f A; intro c10 A f
      refine wpList_nil ?_
      refine x_tn ?_
      refine wp_seq ?_
      refine x_condT f rfl ?_
      refine wp_skip ?_
      refine x_tn ?_
      refine wp_seq ?_
      refine wp_block ?_
      refine wp_seq ?_
      refine sx_list ?_
      refine l_do f rfl rfl rfl (y_move rfl rfl) ?_; clear f A; intro A f
      have BW := Below.refl W9.heap.size W9
      obtain ⟨gk, ok, nmk, szk, prk, ork, slk, ack, nok, nnk, nck, sok, snk, sck, aok, ank, ackk, hak, c0k, c1k, c2k, c3k, c4k, c5k, hNk, hBk, hAk, hXk⟩ := (hx.caches.below B0).at k (by omega)
      replace c0k := St.of c0k; replace c1k := St.of c1k; replace c2k := St.of c2k; replace c3k := St.of c3k; replace c4k := St.of c4k; replace c5k := St.of c5k
      have szW := B0.size
      refine l_do f rfl rfl rfl (y_index rfl rfl (by first | rfl | assumption) rfl (es rfl) (by omega)) ?_; clear f A; intro A f
      refine l_do f rfl rfl rfl (y_loadN (vs := [_, _, _, _, _, _]) rfl rfl (ag rfl) rfl ⟨(by first | assumption | exact St.q c0k BW | exact St.q c1k BW | exact St.q c2k BW | exact St.q c3k BW | exact St.q c4k BW | exact St.q c5k BW), (by first | assumption | exact St.q c0k BW | exact St.q c1k BW | exact St.q c2k BW | exact St.q c3k BW | exact St.q c4k BW | exact St.q c5k BW), (by first | assumption | exact St.q c0k BW | exact St.q c1k BW | exact St.q c2k BW | exact St.q c3k BW | exact St.q c4k BW | exact St.q c5k BW), (by first | assumption | exact St.q c0k BW | exact St.q c1k BW | exact St.q c2k BW | exact St.q c3k BW | exact St.q c4k BW | exact St.q c5k BW), (by first | assumption | exact St.q c0k BW | exact St.q c1k BW | exact St.q c2k BW | exact St.q c3k BW | exact St.q c4k BW | exact St.q c5k BW), (by first | assumption | exact St.q c0k BW | exact St.q c1k BW | exact St.q c2k BW | exact St.q c3k BW | exact St.q c4k BW | exact St.q c5k BW), trivial⟩) ?_; clear f A; intro A f
      have ho5 : OffH W9.heap.size y := offH_old HI.heap (Nat.le_refl _)
      have hlt5 : ∀ b ∈ ds.flatMap Cc.blks, b < W9.heap.size := fun b hb => by obtain ⟨c, hc, hm⟩ := List.mem_flatMap.1 hb; exact ((HI.parts c hc).lt hm).2
      have lt_1 := row_lt HI.words
      have lt_2 := row_lt HI.row
      refine l_alloc (z := .agg #[.slice none 0 0, .int .i64 0, .int .i64 0, .int .i64 0, .slice none 0 0, .slice none 0 0]) f rfl rfl rfl rfl (by kernel_rfl) ?_; clear f A; intro b11 W12 eb11 hb13 rb11 A f; dsimp only [Value.cells] at rb11
      have o_b1_b11 : b1 < b11 := by have := row_lt rb1; omega
      have o_b4_b11 : b4 < b11 := by have := row_lt rb4; omega
      have o_b3_b11 : b3 < b11 := by have := row_lt rb3'; omega
      have z_B0_b11 := B0.size; rw [eb11] at z_B0_b11
      have z_BW_b11 := BW.size; rw [eb11] at z_BW_b11
      replace B0 := Below.next B0 hb13; replace HI := HI.below hb13; replace BW := Below.next BW hb13; replace rb1 := row_next rb1 hb13; replace rb4 := row_next rb4 hb13; replace rb3' := row_next rb3' hb13
      rw [eb11] at ho5 hlt5
      refine l_do f rfl rfl rfl (y_assign rfl rfl) ?_; clear f A; intro A f
      refine l_store f rfl rfl rfl rfl rfl rb11 (sz rfl) rfl (Nat.le_of_ble_eq_true rfl) rfl ?_
      clear rb11; intro W14 hb15 rb11; dsimp only [setL, over, Value.cells] at rb11; replace B0 := Below.thenBut B0 hb15 (by omega); replace BW := Below.thenBut BW hb15 (by omega); replace rb1 := But.row hb15 rb1 (by omega); replace rb4 := But.row hb15 rb4 (by omega); replace rb3' := But.row hb15 rb3' (by omega); replace HI := HI.but hb15 (by omega) (by omega) ho5 (fun hm => by have := hlt5 _ hm; omega)
      refine wpList_nil ?_
      refine x_tn ?_
      have l6_b1 := row_lt rb1
      have l6_b4 := row_lt rb4
      have l6_b3 := row_lt rb3'
      have l6_b11 := row_lt rb11
      have hS0 := B0.size
      have hck : (⟨⟨nmk, szk, prk, ork, slk, ack⟩, nok, nnk, nck, sok, snk, sck, aok, ank, ackk⟩ : Cc).At W14 := ⟨hNk.below BW, hBk.below BW, hAk.below BW⟩
      refine sx_growj (n := 6) [fun v _ _ _ _ => v = .pointer (some ⟨b3, 0 + 6, none⟩), fun v _ _ _ _ => v = .slice (some ⟨g2, 0, none⟩) x.cn x.cn, fun v _ _ _ _ => v = .int .i64 (k : Nat), fun v _ _ _ _ => v = .agg #[.slice nok nnk nck, .int .i64 szk, .int .i64 prk, .int .i64 ork, .slice sok snk sck, .slice aok ank ackk], fun v _ lo hi w => ∃ k1 k2 k3, v = .agg #[.slice (some ⟨k1, 0, none⟩) nnk nnk, .int .i64 szk, .int .i64 prk, .int .i64 ork, .slice (some ⟨k2, 0, none⟩) snk snk, .slice (some ⟨k3, 0, none⟩) ank ank] ∧ w.heap[k1]? = some (.cells (svals nmk).toArray 9 (0, 0)) ∧ w.heap[k2]? = some (.cells (bvals slk).toArray 49 (0, 0)) ∧ w.heap[k3]? = some (.cells (vals ack).toArray 3 (0, 0)) ∧ W14.heap.size ≤ k1 ∧ k1 < k2 ∧ k2 < k3, fun v _ _ _ _ => v = .pointer (some ⟨g2, 0 + k * 6, none⟩)] (fun wx => Below W14.heap.size W14 wx) f (by kernel_rfl) (by kernel_rfl) rfl (by kernel_rfl) (fun _ _ h hb => Below.next h hb) (rj_all ?_) ((Below.refl _ _).drew) ?_ ?_
      · intro r hr
        simp only [List.mem_cons, List.not_mem_nil, or_false] at hr
        rcases hr with rfl | rfl | rfl | rfl | rfl | rfl
        · exact fun _ _ _ _ _ _ h _ => h
        · exact fun _ _ _ _ _ _ h _ => h
        · exact fun _ _ _ _ _ _ h _ => h
        · exact fun _ _ _ _ _ _ h _ => h
        · rintro v vs lo hi w1 w2 ⟨k1, k2, k3, e1, h1, h2, h3, h4⟩ hb; exact ⟨k1, k2, k3, e1, row_next h1 hb, row_next h2 hb, row_next h3 hb, h4⟩
        · exact fun _ _ _ _ _ _ h _ => h
      · refine ⟨?_, ?_, ?_, ?_, ?_, ?_, trivial⟩
        · intro a w1 hS g hd K hK
          exact g_val g (y_field rfl rfl (fo rfl)) (hK _ _ (Below.refl _ _) rfl)
        · intro a w1 hS g hd K hK
          obtain ⟨⟨_, _, h0⟩, -⟩ := hd
          replace g := g.more (d := 31) h0
          exact g_val g (y_load1 rfl rfl (ag rfl) (rowl (rowq (row_next rb3' hS)) rfl)) (hK _ _ (Below.refl _ _) rfl)
        · intro a w1 hS g hd K hK
          exact g_val g (y_move rfl rfl) (hK _ _ (Below.refl _ _) rfl)
        · intro a w1 hS g hd K hK
          exact g_val g (y_loadN (vs := [_, _, _, _, _, _]) rfl rfl (ag rfl) rfl (rowls (rowq (row_next rb11 hS)) _ _ ⟨rfl, rfl, rfl, rfl, rfl, rfl, trivial⟩)) (hK _ _ (Below.refl _ _) rfl)
        · intro a w1 hS g hd K hK
          obtain ⟨⟨_, _, h0⟩, -⟩ := hd
          replace g := g.more (d := 34) h0
          refine g_call g (IsCall.mk' (cap := []) rfl rfl rfl) (pl rfl) (slCopyCache_c _ ⟨⟨nmk, szk, prk, ork, slk, ack⟩, nok, nnk, nck, sok, snk, sck, aok, ank, ackk⟩ (hck.below hS)) ?_
          rintro e w2 ⟨k1, k2, k3, rfl, p1, p2, p3, p4, s1, s2, s3, hb⟩
          exact ⟨_, rfl, hK _ _ hb ⟨k1, k2, k3, rfl, s1, s2, s3, by have := hS.size; omega, p2, p3⟩⟩
        · intro a w1 hS g hd K hK
          obtain ⟨⟨_, _, h0⟩, ⟨_, _, h1⟩, -⟩ := hd
          replace g := g.more (d := 32) h0
          replace g := g.more (d := 33) h1
          exact g_val g (y_index rfl rfl rfl rfl (es rfl) (by omega)) (hK _ _ (Below.refl _ _) rfl)
      · intro a w1 G
        have hS := G.s
        obtain ⟨I, hI', -⟩ := G.r
        obtain ⟨k1, k2, k3, e4, s1, s2, s3, p1, p2, p3⟩ := (hI' 4 rfl).1
        have e5 := (hI' 5 rfl).1
        have hlN := hNk.len
        have hlB := hBk.len
        have hlA := hAk.len
        obtain ⟨cN, hcN⟩ : ∃ cN : Cc, cN = ⟨⟨nmk, szk, prk, ork, slk, ack⟩, some ⟨k1, 0, none⟩, nnk, nnk, some ⟨k2, 0, none⟩, snk, snk, some ⟨k3, 0, none⟩, ank, ank⟩ := ⟨_, rfl⟩
        have hO : CcO w.heap.size w1 cN := by
          subst hcN
          exact ⟨owns_of_row (n := nnk) s1 (by omega) (by simp [svals, hlN]) (by have := hNk.reach; unfold maxLen; omega), owns_of_row (n := snk) s2 (by omega) (by simp [length_bvals, hlB]) (by have := hBk.reach; unfold maxLen; omega), owns_of_row (n := ank) s3 (by omega) (by simp [vals, hlA]) (by have := hAk.reach; unfold maxLen; omega), hNk.reach, hBk.reach, hAk.reach⟩
        have hbl : cN.blks = [k1, k2, k3] := by subst hcN; rfl
        have HIe := HI.below hS
        have g := (G.f.more (d := 35) e4).more (d := 36) e5
        show Oper.wp _ _ _ _ _ _
        refine g_storeR g rfl rfl rfl rfl (row_storeV (sz rfl) rfl HIe.row (by rw [List.length_append, length_c6, List.length_map, HIe.len (by omega), List.length_drop, l2]; omega) rfl) ?_
        rintro Wh ⟨hbh, rowh⟩
        have HI2 : ScI w.heap.size Wh x (k + 1) g1 g2 M2 y (ds ++ [cN]) := HIe.next l2 hcl (by omega) hO (by rw [hXk.out, hcN]) (by rw [hbl]; simp; omega) (fun b hb => by rw [hbl] at hb; simp only [List.mem_cons, List.not_mem_nil, or_false] at hb; refine ⟨by omega, by omega, offH_old HI.heap (by omega), fun hm => ?_⟩; have := hlt5 b hm; omega) ne12 hbh (by rw [Nat.zero_add] at rowh; rw [hcN]; exact rowh)
        have hdb2 : ∀ b ∈ (ds ++ [cN]).flatMap Cc.blks, b3 < b := fun b hb => by
          rw [List.flatMap_append, List.mem_append] at hb
          rcases hb with hb | hb
          · exact hdb b hb
          · simp only [List.flatMap_cons, List.flatMap_nil, List.append_nil, hbl, List.mem_cons, List.not_mem_nil, or_false] at hb; omega
        replace B0 : Below w.heap.size w Wh := Below.thenBut (Below.next B0 hS) hbh (by omega)
        replace rb1 := But.row hbh (row_next rb1 hS) (by omega)
        replace rb4 := But.row hbh (row_next rb4 hS) (by omega)
        replace rb3' := But.row hbh (row_next rb3' hS) (by omega)
        clear hO HIe rowh hbh hS e4 e5 s1 s2 s3 hI' G f HI
        clear A
        revert g
        revert a
        intro A f
        show Exit.inBlock _ _ .normal A Wh
        refine x_bn ?_
        refine x_tn ?_
        refine sx_list ?_
        refine l_do f rfl rfl rfl (y_add rfl rfl rfl rfl (by omega)) ?_; clear f A; intro A f
        refine l_do f rfl rfl rfl (y_move rfl rfl) ?_; clear f A; intro A f
        refine wpList_nil ?_
        refine x_tn ?_
        exact ⟨x.cn - (k + 1), by omega, k + 1, ds ++ [cN], rfl, by omega, f.sub ⟨rfl, rfl, rfl, rfl, rfl, rfl, trivial⟩, B0, rb1, rb4, rb3', HI2, hdb2⟩
    · clear f A; intro c10 A f
      refine wpList_nil ?_
      refine x_tn ?_
      refine wp_seq ?_
      refine x_condF f rfl ?_
      refine wp_exit ?_
      refine x_te ?_
      refine x_te ?_
      refine x_bh ?_
      refine x_tn ?_
      refine wp_seq ?_
      refine sx_list ?_
      refine l_do f rfl rfl rfl (y_loadN (vs := [_, _, _, _, _, _, _]) rfl rfl (ag rfl) rfl (rowls (rowq rb3') _ _ ⟨rfl, rfl, rfl, rfl, rfl, rfl, rfl, trivial⟩)) ?_; clear f A; intro A f
      refine l_store f rfl rfl rfl rfl rfl rb4 (sz rfl) rfl (Nat.le_of_ble_eq_true rfl) rfl ?_
      clear rb4; intro W16 hb17 rb4; dsimp only [setL, over, Value.cells] at rb4; replace B0 := Below.thenBut B0 hb17 (by omega); replace rb1 := But.row hb17 rb1 (by omega); replace rb3' := But.row hb17 rb3' (by omega); replace HI := HI.but hb17 (by omega) (by omega) o4 (fun hm => by have := hdb _ hm; omega)
      refine wpList_nil ?_
      refine x_tn ?_
      refine wp_ret ?_
      refine x_retc f rfl rfl (ag rfl) rb4 rfl ?_
      -- return 0: ¬c10@27
      have ek : k = x.cn := by omega
      subst ek
      obtain ⟨hD, hpl⟩ := HI.done l2 hcl hx.words.len hg.1 hg.2.1 ne12 hx.words.reach hx.caches.reach
      exact ⟨⟨⟨x.words, some ⟨g1, 0, none⟩, x.wn, x.wn, y, ds, some ⟨g2, 0, none⟩, x.cn, x.cn⟩, rfl, hD, by show Sp.mk x.words y.hp (ds.map (·.c)) = Sp.mk x.words x.h.hp (x.cs.map (·.c)); rw [hpl, hyp], rfl, rfl⟩, B0⟩


end Go.Proofs.Ytnijjpakpphhhaa

/-
  OWN TEXT. Contract of the laws' own sameInts at two that hold the same.
-/
namespace Go.Proofs.Ytnijjpakpphhhaa
open Go Go.RowKit Go.Proofs.Ytnijjpakpphhhaa.Kit

set_option maxHeartbeats 400000 in
theorem same_eq (w : World) (ao bo : Option Addr) (n ca cb : Nat) (xs : List Int) (hn : xs.length = n) (hr : n * 8 ≤ 140737488351232) (ha : IntsAt w ao xs) (hb : IntsAt w bo xs) :
    Calls Try.prog 21 #[.slice ao n ca, .slice bo n cb] w fun e w' => e = .returned (.bool true) ∧ ∃ d, w' = w.drewN d := by
  go_enter Try.func21, Try.ntmps21
  go_wp2
  go_loopw [5] (fun i wr => ∃ k d : Nat, k ≤ n ∧ i = .int .i64 k ∧ wr = w.drewN d) (fun i _ => n - (intOf i).toNat)
  case atStart => exact ⟨0, 0, Nat.zero_le _, rfl, rfl⟩
  case round =>
    obtain ⟨k, d, hk, rfl, rfl⟩ := hrel
    by_cases hlt : k < n
    · obtain ⟨b1, o1, rfl, c1⟩ := ha k (by omega)
      obtain ⟨b2, o2, rfl, c2⟩ := hb k (by omega)
      clear ha hb
      go_wp2
      go_quiet (fail)
      go_wp2
      go_roundw
      case rel => exact ⟨k + 1, _, by omega, by go_num, rfl⟩
      case measure => simp [intOf]; omega
    · go_wp2
      go_ret
      exact ⟨rfl, d, rfl⟩

end Go.Proofs.Ytnijjpakpphhhaa

/-
  OWN TEXT. Contracts of the laws' own: sameBlocks, sameZone at two that hold the same.
-/
namespace Go.Proofs.Ytnijjpakpphhhaa
open Go Go.RowKit Go.Proofs.Ytnijjpakpphhhaa.Kit

set_option maxHeartbeats 1000000 in
theorem sameBlocks_eq (w : World) (ao bo : Option Addr) (n ca cb : Nat) (l : List Bk) (ha : Blks w ao n l) (hb : Blks w bo n l) :
    Calls Try.prog 46 #[.slice ao n ca, .slice bo n cb] w fun e w' => e = .returned (.bool true) ∧ ∃ d, w' = w.drewN d := by
  have hn := ha.len
  have hr := ha.reach
  have xa := ha.at_
  have xb := hb.at_
  clear ha hb
  go_enter Try.func46, Try.ntmps46
  go_wp2
  go_loopw [5] (fun i wr => ∃ k d : Nat, k ≤ n ∧ i = .int .i64 k ∧ wr = w.drewN d) (fun i _ => n - (intOf i).toNat)
  case atStart => exact ⟨0, 0, Nat.zero_le _, rfl, rfl⟩
  case round =>
    obtain ⟨k, d, hk, rfl, rfl⟩ := hrel
    by_cases hlt : k < n
    · obtain ⟨b1, o1, x, y, u, rfl, c1, c2, c3, hX⟩ := xa.at k (by omega)
      obtain ⟨b2, o2, x', y', u', rfl, d1, d2, d3, hX'⟩ := xb.at k (by omega)
      have hxy : (⟨x, y, u⟩ : Bk) = ⟨x', y', u'⟩ := hX.out.symm.trans hX'.out
      cases hxy
      clear xa xb hX hX'
      go_wp2
      go_quiet (fail)
      go_wp2
      go_roundw
      case rel => exact ⟨k + 1, _, by omega, by go_num, rfl⟩
      case measure => simp [intOf]; omega
    · go_wp2
      go_ret
      exact ⟨rfl, d, rfl⟩

set_option maxHeartbeats 1000000 in
theorem sameZone_eq (w : World) (f t : Int) (f1 f2 t1 t2 : Option Addr) (fn fc1 fc2 tn tc1 tc2 : Nat) (z : Zn) (h1 : ZnAt w f1 fn t1 tn z) (h2 : ZnAt w f2 fn t2 tn z) :
    Calls Try.prog 47 #[.agg #[.int .i64 f, .int .i64 t, .slice f1 fn fc1, .slice t1 tn tc1], .agg #[.int .i64 f, .int .i64 t, .slice f2 fn fc2, .slice t2 tn tc2]] w fun e w' => e = .returned (.bool true) ∧ Below w.heap.size w w' := by
  have hb1 : Below w.heap.size w ((w.alloc (.cells #[.int .i64 f, .int .i64 t, .slice f1 fn fc1, .slice t1 tn tc1] 70)).alloc (.cells #[.int .i64 f, .int .i64 t, .slice f2 fn fc2, .slice t2 tn tc2] 70)) := ((Below.refl _ _).alloc (Nat.le_refl _) _).alloc (by simp) _
  have g1 := h1.below hb1
  have g2 := h2.below hb1
  clear h1 h2
  go_enter Try.func47, Try.ntmps47
  go_wp2_with fail
  go_at_call 46
  refine (sameBlocks_eq _ f1 f2 fn fc1 fc2 z.free g1.free g2.free).mono ?_
  rintro e w1 ⟨rfl, d, rfl⟩
  go_wp2_with fail
  go_at_call 21
  refine (same_eq _ t1 t2 tn tc1 tc2 z.types g1.types.len g1.types.reach (g1.types.at_.below (below_drawn d)) (g2.types.at_.below (below_drawn d))).mono ?_
  rintro e w2 ⟨rfl, d2, rfl⟩
  go_wp2
  go_ret
  exact ⟨rfl, hb1.trans (below_drewN (Below.refl _ _) _)⟩

end Go.Proofs.Ytnijjpakpphhhaa

/-
  OWN TEXT. Contracts of the laws' own: sameHeap at two that hold the same.
-/
namespace Go.Proofs.Ytnijjpakpphhhaa
open Go Go.RowKit Go.Proofs.Ytnijjpakpphhhaa.Kit

/-- A heap as a value. -/
def hval (x : Hx) : Value := .agg #[.slice x.zo x.zn x.zc, .slice x.mo x.mn x.mc, .int .i64 x.cpus, .slice x.lo x.ln x.lc, .slice x.vo x.vn x.vc]

theorem map_getDH {α β : Type} {l m : List α} {f : α → β} (h : l.map f = m.map f) (i : Nat) (d : α) : f (l.getD i d) = f (m.getD i d) := by
  have e := congrArg (fun s => s[i]?) h
  simp only [List.getElem?_map] at e
  rw [List.getD_eq_getElem?_getD, List.getD_eq_getElem?_getD]
  cases h1 : l[i]? with
  | none =>
    cases h2 : m[i]? with
    | none => rfl
    | some y => rw [h1, h2] at e; cases e
  | some x =>
    cases h2 : m[i]? with
    | none => rw [h1, h2] at e; cases e
    | some y => rw [h1, h2] at e; simpa using e

set_option maxRecDepth 4000 in
set_option maxHeartbeats 4000000 in
theorem sameHeap_eq (w : World) (x y : Hx) (hx : x.At w) (hy : y.At w) (he : x.hp = y.hp) :
    Calls Try.prog 22 #[.agg #[.slice x.zo x.zn x.zc, .slice x.mo x.mn x.mc, .int .i64 x.cpus, .slice x.lo x.ln x.lc, .slice x.vo x.vn x.vc], .agg #[.slice y.zo y.zn y.zc, .slice y.mo y.mn y.mc, .int .i64 y.cpus, .slice y.lo y.ln y.lc, .slice y.vo y.vn y.vc]] w fun e w' => e = .returned (.bool true) ∧ Below w.heap.size w w' := by
  have e0 : x.zs.map (·.z) = y.zs.map (·.z) := congrArg Hp.zones he
  have e1 : x.mins = y.mins := congrArg Hp.mins he
  have e2 : x.cpus = y.cpus := congrArg Hp.cpus he
  have e3 : x.ls.map (·.l) = y.ls.map (·.l) := congrArg Hp.lists he
  have e4 : x.live = y.live := congrArg Hp.live he
  obtain ⟨zs, zo, zn, zc, mins, mo, mn, mc, cpus, ls, lo, ln, lc, live, vo, vn, vc⟩ := x
  obtain ⟨zs', zo', zn', zc', mins', mo', mn', mc', cpus', ls', lo', ln', lc', live', vo', vn', vc'⟩ := y
  dsimp only at e0 e1 e2 e3 e4 ⊢
  subst e1 e2 e4
  obtain ⟨xz, xm, xl, xv⟩ := hx
  obtain ⟨yz, ym, yl, yv⟩ := hy
  dsimp only at xz xm xl xv yz ym yl yv
  obtain rfl : zn = zn' := by have := congrArg List.length e0; simp only [List.length_map] at this; have := xz.len; have := yz.len; omega
  obtain rfl : ln = ln' := by have := congrArg List.length e3; simp only [List.length_map] at this; have := xl.len; have := yl.len; omega
  obtain rfl : mn = mn' := by have := xm.len; have := ym.len; omega
  obtain rfl : vn = vn' := by have := xv.len; have := yv.len; omega
  clear he
  have hE0 : Hid (zs.map (·.z) = zs'.map (·.z)) := e0
  have hE3 : Hid (ls.map (·.l) = ls'.map (·.l)) := e3
  clear e0 e3
  have hb1 := below_box w (.cells #[.slice zo zn zc, .slice mo mn mc, .int .i64 cpus, .slice lo ln lc, .slice vo vn vc] 27)
  have A1 := hbox_new w (.slice zo zn zc) (.slice mo mn mc) (.int .i64 cpus) (.slice lo ln lc) (.slice vo vn vc) 27
  have hb2 := below_box (w.alloc (.cells #[.slice zo zn zc, .slice mo mn mc, .int .i64 cpus, .slice lo ln lc, .slice vo vn vc] 27)) (.cells #[.slice zo' zn zc', .slice mo' mn mc', .int .i64 cpus, .slice lo' ln lc', .slice vo' vn vc'] 27)
  have A2 := hbox_new (w.alloc (.cells #[.slice zo zn zc, .slice mo mn mc, .int .i64 cpus, .slice lo ln lc, .slice vo vn vc] 27)) (.slice zo' zn zc') (.slice mo' mn mc') (.int .i64 cpus) (.slice lo' ln lc') (.slice vo' vn vc') 27
  replace A1 := A1.below hb2
  have hb0 := hb1.trans (hb2.mono hb1.size)
  have hs0 : (w.alloc (.cells #[.slice zo zn zc, .slice mo mn mc, .int .i64 cpus, .slice lo ln lc, .slice vo vn vc] 27)).heap.size = w.heap.size + 1 := by simp
  rw [hs0] at A2
  clear hb1 hb2 hs0
  obtain ⟨W0, hW0⟩ : ∃ W0, (w.alloc (.cells #[.slice zo zn zc, .slice mo mn mc, .int .i64 cpus, .slice lo ln lc, .slice vo vn vc] 27)).alloc (.cells #[.slice zo' zn zc', .slice mo' mn mc', .int .i64 cpus, .slice lo' ln lc', .slice vo' vn vc'] 27) = W0 := ⟨_, rfl⟩
  rw [hW0] at A1 A2 hb0
  have HW0 : Hid _ := hW0
  replace xz := xz.below hb0
  replace xm := xm.below hb0
  replace xl := xl.below hb0
  replace xv := xv.below hb0
  replace yz := yz.below hb0
  replace ym := ym.below hb0
  replace yl := yl.below hb0
  replace yv := yv.below hb0
  have a0 := A1.c0
  have a1 := A1.c1
  have a2 := A1.c2
  have a3 := A1.c3
  have a4 := A1.c4
  have b0 := A2.c0
  have b1 := A2.c1
  have b2 := A2.c2
  have b3 := A2.c3
  have b4 := A2.c4
  have q : (cpus == cpus) = true := by simp
  have qz : ((zn : Int) == (zn : Int)) = true := by simp
  have ql : ((ln : Int) == (ln : Int)) = true := by simp
  have rz := xz.reach
  have rl := xl.reach
  clear hW0
  go_enter Try.func22, Try.ntmps22
  go_wp2_with (rw [HW0.out])
  go_at_call 21
  refine (same_eq _ mo mo' mn mc mc' mins xm.len xm.reach xm.at_ ym.at_).mono ?_
  rintro e w2 ⟨rfl, d2, rfl⟩
  obtain ⟨W2, hW2⟩ : ∃ W2, W0.drewN d2 = W2 := ⟨_, rfl⟩
  have hB2 : Below W0.heap.size W0 W2 := by rw [← hW2]; exact below_drawn d2
  rw [hW2]
  clear hW2 a0 a1 a2 a3 a4 b0 b1 b2 b3 b4
  have a4 := (A1.below hB2).c4
  have b4 := (A2.below hB2).c4
  go_wp2_with fail
  go_at_call 46
  refine (sameBlocks_eq _ vo vo' vn vc vc' live (xv.below hB2) (yv.below hB2)).mono ?_
  rintro e w3 ⟨rfl, d3, rfl⟩
  obtain ⟨W3, hW3⟩ : ∃ W3, W2.drewN d3 = W3 := ⟨_, rfl⟩
  have hB3 : Below W0.heap.size W0 W3 := by rw [← hW3]; exact hB2.trans ((below_drawn d3).mono hB2.size)
  rw [hW3]
  clear hW3 a4 b4 HW0
  go_wp2_with fail
  go_loopw [5] (fun iv wr => ∃ k : Nat, k ≤ zn ∧ iv = .int .i64 k ∧ Below W0.heap.size W0 wr) (fun iv _ => zn - (intOf iv).toNat)
  case atStart => exact ⟨0, Nat.zero_le _, rfl, hB3⟩
  case round =>
    obtain ⟨k, hk, rfl, hB⟩ := hrel
    clear hB2 hB3
    have B1 := A1.below hB
    have B2 := A2.below hB
    have a0 := B1.c0
    have b0 := B2.c0
    by_cases hlt : k < zn
    · obtain ⟨g, off, z, fo, fn, fc, to_, tn, tc, ha, c0, c1, c2, c3, hat, hz⟩ := (xz.below hB).at k hlt
      obtain ⟨g', off', z', fo', fn', fc', to', tn', tc', ha', d0, d1, d2, d3, hat', hz'⟩ := (yz.below hB).at k hlt
      subst ha ha'
      have hzz : z = z' := by
        have := map_getDH hE0.out k .zero
        rw [hz.out, hz'.out] at this
        exact this
      subst hzz
      obtain rfl : fn = fn' := hat.free.len.symm.trans hat'.free.len
      obtain rfl : tn = tn' := hat.types.len.symm.trans hat'.types.len
      go_wp2_with fail
      have SB : Below wr.heap.size wr { wr with drawn := wr.drawn + 1 } := (Below.refl wr.heap.size wr).drew
      have m0 : ∀ wx, Below wr.heap.size wr wx → wx.cell? ⟨w.heap.size, 0, none⟩ = some (.slice (some ⟨g, off, none⟩) zn zc) := fun wx h => keep a0 h
      have m1 : ∀ wx, Below wr.heap.size wr wx → wx.cell? ⟨w.heap.size + 1, 0, none⟩ = some (.slice (some ⟨g', off', none⟩) zn zc') := fun wx h => keep b0 h
      have n0 : ∀ wx, Below wr.heap.size wr wx → wx.cell? ⟨g, off + k * 4, none⟩ = some (.int .i64 z.f) := fun wx h => keep c0 h
      have n1 : ∀ wx, Below wr.heap.size wr wx → wx.cell? ⟨g, off + k * 4 + 1, none⟩ = some (.int .i64 z.t) := fun wx h => keep c1 h
      have n2 : ∀ wx, Below wr.heap.size wr wx → wx.cell? ⟨g, off + k * 4 + 2, none⟩ = some (.slice fo fn fc) := fun wx h => keep c2 h
      have n3 : ∀ wx, Below wr.heap.size wr wx → wx.cell? ⟨g, off + k * 4 + 3, none⟩ = some (.slice to_ tn tc) := fun wx h => keep c3 h
      have o0 : ∀ wx, Below wr.heap.size wr wx → wx.cell? ⟨g', off' + k * 4, none⟩ = some (.int .i64 z.f) := fun wx h => keep d0 h
      have o1 : ∀ wx, Below wr.heap.size wr wx → wx.cell? ⟨g', off' + k * 4 + 1, none⟩ = some (.int .i64 z.t) := fun wx h => keep d1 h
      have o2 : ∀ wx, Below wr.heap.size wr wx → wx.cell? ⟨g', off' + k * 4 + 2, none⟩ = some (.slice fo' fn fc') := fun wx h => keep d2 h
      have o3 : ∀ wx, Below wr.heap.size wr wx → wx.cell? ⟨g', off' + k * 4 + 3, none⟩ = some (.slice to' tn tc') := fun wx h => keep d3 h
      refine wp_region_peel (S := fun wx => Below wr.heap.size wr wx) 11 _ (by kernel_rfl) (by kernel_rfl) rfl ?_
      simp only [List.take_succ_cons, List.take_zero]
      refine takeH 0 (v := .pointer (some ⟨w.heap.size, 0, none⟩)) rfl (by kernel_rfl) (by kernel_rfl) (by kernel_rfl) (fun _ _ _ h => h) rfl (fun wx hSx => ?_) SB ?_
      · go_simp
      try simp only [Act.put, List.setIfInBounds_toArray, List.set_cons_zero, List.set_cons_succ]
      refine takeH 1 (v := .slice (some ⟨g, off, none⟩) zn zc) rfl (by kernel_rfl) (by kernel_rfl) (by kernel_rfl) (fun _ _ _ h => h) rfl (fun wx hSx => ?_) SB ?_
      · go_simp
      try simp only [Act.put, List.setIfInBounds_toArray, List.set_cons_zero, List.set_cons_succ]
      refine takeH 2 (v := .int .i64 (k : Int)) rfl (by kernel_rfl) (by kernel_rfl) (by kernel_rfl) (fun _ _ _ h => h) rfl (fun wx hSx => ?_) SB ?_
      · go_simp
      try simp only [Act.put, List.setIfInBounds_toArray, List.set_cons_zero, List.set_cons_succ]
      refine takeH 3 (v := .pointer (some ⟨g, off + k * 4, none⟩)) rfl (by kernel_rfl) (by kernel_rfl) (by kernel_rfl) (fun _ _ _ h => h) rfl (fun wx hSx => ?_) SB ?_
      · go_simp
      try simp only [Act.put, List.setIfInBounds_toArray, List.set_cons_zero, List.set_cons_succ]
      refine takeH 4 (v := .agg #[.int .i64 z.f, .int .i64 z.t, .slice fo fn fc, .slice to_ tn tc]) rfl (by kernel_rfl) (by kernel_rfl) (by kernel_rfl) (fun _ _ _ h => h) rfl (fun wx hSx => ?_) SB ?_
      · go_simp
      try simp only [Act.put, List.setIfInBounds_toArray, List.set_cons_zero, List.set_cons_succ]
      refine takeH 5 (v := .pointer (some ⟨w.heap.size + 1, 0, none⟩)) rfl (by kernel_rfl) (by kernel_rfl) (by kernel_rfl) (fun _ _ _ h => h) rfl (fun wx hSx => ?_) SB ?_
      · go_simp
      try simp only [Act.put, List.setIfInBounds_toArray, List.set_cons_zero, List.set_cons_succ]
      refine takeH 6 (v := .slice (some ⟨g', off', none⟩) zn zc') rfl (by kernel_rfl) (by kernel_rfl) (by kernel_rfl) (fun _ _ _ h => h) rfl (fun wx hSx => ?_) SB ?_
      · go_simp
      try simp only [Act.put, List.setIfInBounds_toArray, List.set_cons_zero, List.set_cons_succ]
      refine takeH 7 (v := .int .i64 (k : Int)) rfl (by kernel_rfl) (by kernel_rfl) (by kernel_rfl) (fun _ _ _ h => h) rfl (fun wx hSx => ?_) SB ?_
      · go_simp
      try simp only [Act.put, List.setIfInBounds_toArray, List.set_cons_zero, List.set_cons_succ]
      refine takeH 8 (v := .pointer (some ⟨g', off' + k * 4, none⟩)) rfl (by kernel_rfl) (by kernel_rfl) (by kernel_rfl) (fun _ _ _ h => h) rfl (fun wx hSx => ?_) SB ?_
      · go_simp
      try simp only [Act.put, List.setIfInBounds_toArray, List.set_cons_zero, List.set_cons_succ]
      refine takeH 9 (v := .agg #[.int .i64 z.f, .int .i64 z.t, .slice fo' fn fc', .slice to' tn tc']) rfl (by kernel_rfl) (by kernel_rfl) (by kernel_rfl) (fun _ _ _ h => h) rfl (fun wx hSx => ?_) SB ?_
      · go_simp
      try simp only [Act.put, List.setIfInBounds_toArray, List.set_cons_zero, List.set_cons_succ]
      refine oneH 10 (by kernel_rfl) rfl rfl (fun K1 hK1 => ?_)
      go_simp
      refine (sameZone_eq _ z.f z.t fo fo' to_ to' fn fc fc' tn tc tc' z (hat.below SB) (hat'.below SB)).mono ?_
      rintro e wA ⟨rfl, hbA⟩
      have SA : Below wr.heap.size wr wA := SB.trans (hbA.mono SB.size)
      refine hK1 _ _ SA ?_
      try simp only [Act.put, List.setIfInBounds_toArray, List.set_cons_zero, List.set_cons_succ]
      refine wpAnyH_done (by kernel_rfl) ?_ _
      show Oper.wp _ _ _ _ _ _
      have hBA : Below W0.heap.size W0 wA := hB.trans (SA.mono hB.size)
      clear m0 m1 n0 n1 n2 n3 o0 o1 o2 o3 hat hat' c0 c1 c2 c3 d0 d1 d2 d3 hz hz' SA SB hbA a0 b0 B1 B2 hK1
      go_wp2_with fail
      go_roundw
      case rel => exact ⟨k + 1, by omega, by go_num, hBA⟩
      case measure => simp [intOf]; omega
    · go_wp2_with fail
      clear hlt hk
      go_loopw [6] (fun iv wr => ∃ k : Nat, k ≤ ln ∧ iv = .int .i64 k ∧ Below W0.heap.size W0 wr) (fun iv _ => ln - (intOf iv).toNat)
      case atStart => exact ⟨0, Nat.zero_le _, rfl, hB⟩
      case round =>
        clear a0 b0 B1 B2 hB
        obtain ⟨k, hk, rfl, hB⟩ := hrel
        have B1 := A1.below hB
        have B2 := A2.below hB
        have a3 := B1.c3
        have b3 := B2.c3
        by_cases hlt : k < ln
        · obtain ⟨g, off, c, z, t, pages, po, pn, pc, ha, c0, c1, c2, c3, hat, hz⟩ := (xl.below hB).at k hlt
          obtain ⟨g', off', c', z', t', pages', po', pn', pc', ha', d0, d1, d2, d3, hat', hz'⟩ := (yl.below hB).at k hlt
          subst ha ha'
          have hzz : (⟨c, z, t, pages⟩ : Ls) = ⟨c', z', t', pages'⟩ := by
            have := map_getDH hE3.out k .zero
            rw [hz.out, hz'.out] at this
            exact this
          cases hzz
          obtain rfl : pn = pn' := hat.len.symm.trans hat'.len
          have qc : (c == c) = true := by simp
          have qq : (z == z) = true := by simp
          have qt : (t == t) = true := by simp
          have hb1 := below_box wr (.cells #[.int .i64 c, .int .i64 z, .int .i64 t, .slice po pn pc] 77)
          have X1 := zbox_new wr (.int .i64 c) (.int .i64 z) (.int .i64 t) (.slice po pn pc) 77
          have hb2 := below_box (wr.alloc (.cells #[.int .i64 c, .int .i64 z, .int .i64 t, .slice po pn pc] 77)) (.cells #[.int .i64 c, .int .i64 z, .int .i64 t, .slice po' pn pc'] 77)
          have X2 := zbox_new (wr.alloc (.cells #[.int .i64 c, .int .i64 z, .int .i64 t, .slice po pn pc] 77)) (.int .i64 c) (.int .i64 z) (.int .i64 t) (.slice po' pn pc') 77
          have hbb := hb1.trans (hb2.mono hb1.size)
          replace X1 := X1.below hb2
          replace b3 := keep b3 hb1
          replace d0 := keep d0 hb1
          replace d1 := keep d1 hb1
          replace d2 := keep d2 hb1
          replace d3 := keep d3 hb1
          have x0 := X1.c0
          have x1 := X1.c1
          have x2 := X1.c2
          have x3 := X1.c3
          have u0 := X2.c0
          have u1 := X2.c1
          have u2 := X2.c2
          have u3 := X2.c3
          have HS := same_eq ((wr.alloc (.cells #[.int .i64 c, .int .i64 z, .int .i64 t, .slice po pn pc] 77)).alloc (.cells #[.int .i64 c, .int .i64 z, .int .i64 t, .slice po' pn pc'] 77)) po po' pn pc pc' pages hat.len hat.reach (hat.below hbb).at_ (hat'.below hbb).at_
          clear hat hat' hz hz' B1 B2 hb1 hb2
          go_wp2_with fail
          go_at_call 21
          refine HS.mono ?_
          rintro e w5 ⟨rfl, d5, rfl⟩
          have hB5 := hB.trans ((hbb.trans ((below_drawn d5).mono hbb.size)).mono hB.size)
          clear HS x0 x1 x2 x3 u0 u1 u2 u3 X1 X2 c0 c1 c2 c3 d0 d1 d2 d3 a3 b3 hbb
          go_wp2_with fail
          go_roundw
          case rel => exact ⟨k + 1, by omega, by go_num, hB5⟩
          case measure => simp [intOf]; omega
        · go_wp2
          go_ret
          exact ⟨rfl, hb0.trans (hB.mono hb0.size)⟩

end Go.Proofs.Ytnijjpakpphhhaa
