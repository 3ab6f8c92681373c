/-
  OWN TEXTS.
-/
import Derived.Test.YtnijjpakpphhhaaPart12
set_option maxRecDepth 10000
set_option maxHeartbeats 4000000
namespace Go.Proofs.Ytnijjpakpphhhaa
open Go Go.RowKit Go.Proofs.Ytnijjpakpphhhaa.Kit
def FreeAt (words : List Int) (b : Bk) (a : Int) : Prop := ∃ l, fol words (min b.o.toNat words.length) b.t = some l ∧ a ∈ l
theorem intIdx_any (w : World) (ao : Option Addr) (n cap : Nat) (v : Int) (l : List Int) (h : Nums w ao n l) :
    Calls Try.prog 88 #[.slice ao n cap, .int .i64 v] w fun e w' => ((∃ k : Nat, k < n ∧ e = .returned (.int .i64 (k : Nat)) ∧ l.getD k 0 = v) ∨ (e = .returned (.int .i64 (-1)) ∧ ∀ j, j < n → l.getD j 0 ≠ v)) ∧ Below w.heap.size w w' := by
 have hlr := h.reach
 have hll := h.len
 have B0 := Below.refl w.heap.size w
 refine sx_enter (args := [_, _]) 19 Try.func88 rfl rfl rfl ?_
 intro A f
 refine wp_seq ?_
 refine sx_list ?_
 refine l_do f rfl rfl rfl (y_assign rfl rfl) ?_; clear f A; intro A f
 refine wpList_nil ?_
 refine x_tn ?_
 refine wp_seq ?_
 refine wp_seq ?_
 refine sx_list ?_
 refine l_do f rfl rfl rfl (y_move rfl rfl) ?_; clear f A; intro A f
 refine l_do f rfl rfl rfl (y_len rfl rfl (sl rfl)) ?_; clear f A; intro A f
 refine l_do f rfl rfl rfl (y_move rfl rfl) ?_; clear f A; intro A f
 refine wpList_nil ?_
 refine x_tn ?_
 refine wp_block ?_
 refine x_loop (fun m A W => ∃ k : Nat, m = n - k ∧ k ≤ n ∧ Fr A 19 [(0, .slice ao n cap), (1, .int .i64 v), (7, .int .i64 (n : Nat)), (8, .int .i64 (k : Nat))] ∧ Below w.heap.size w W ∧ ∀ j, j < k → l.getD j 0 ≠ v) (n0 := n) (⟨0, rfl, Nat.zero_le _, f.sub ⟨rfl, rfl, rfl, rfl, trivial⟩, B0, fun j hj => absurd hj (Nat.not_lt_zero j)⟩) ?_
 clear f A
 clear B0
 rintro m A W1 ⟨k, hn, hk, f, B0, hno⟩
 refine wp_seq ?_
 refine sx_list ?_
 refine l_if _ f rfl rfl rfl (y_lss rfl rfl rfl) ?_ ?_
 ·clear f A; intro c2 A f
  refine wpList_nil ?_
  refine x_tn ?_
  refine wp_seq ?_
  refine x_condT f rfl ?_
  refine wp_skip ?_
  refine x_tn ?_
  refine wp_seq ?_
  refine wp_block ?_
  refine wp_seq ?_
  refine sx_list ?_
  refine l_do f rfl rfl rfl (y_move rfl rfl) ?_; clear f A; intro A f
  refine l_do f rfl rfl rfl (y_assign rfl rfl) ?_; clear f A; intro A f
  refine wpList_nil ?_
  refine x_tn ?_
  refine wp_seq ?_
  refine sx_list ?_
  refine l_do f rfl rfl rfl (y_move rfl rfl) ?_; clear f A; intro A f
  refine l_do f rfl rfl rfl (y_move rfl rfl) ?_; clear f A; intro A f
  refine l_do f rfl rfl rfl (y_move rfl rfl) ?_; clear f A; intro A f
  obtain ⟨gu, ou, vu, hau, c0u, hXu⟩ := h.at_.at (k) (by have := h.len; omega)
  replace c0u := St.of c0u
  rw [show ou + k = ou + k * 1 by omega] at c0u
  refine l_do f rfl rfl rfl (y_index rfl rfl (by first | rfl | assumption) rfl (es rfl) (by omega)) ?_; clear f A; intro A f
  refine l_do f rfl rfl rfl (y_load1 rfl rfl (ag rfl) (by first | assumption | exact St.q c0u B0)) ?_; clear f A; intro A f
  refine l_if _ f rfl rfl rfl (y_eql rfl rfl rfl) ?_ ?_
  ·clear f A; intro c3 A f
   refine wpList_nil ?_
   refine x_tn ?_
   refine x_condT f rfl ?_
   refine wp_seq ?_
   refine sx_list ?_
   refine l_do f rfl rfl rfl (y_move rfl rfl) ?_; clear f A; intro A f
   refine l_do f rfl rfl rfl (y_assign rfl rfl) ?_; clear f A; intro A f
   refine wpList_nil ?_
   refine x_tn ?_
   refine wp_ret ?_
   refine x_br ?_
   refine x_tr ?_
   refine x_tr ?_
   refine x_br ?_
   refine x_tr ?_
   refine x_ret1 f rfl rfl ?_
   exact ⟨.inl ⟨k, by omega, rfl, by rw [hXu.out]; exact c3.symm⟩, B0⟩
  ·clear f A; intro c3 A f
   refine wpList_nil ?_
   refine x_tn ?_
   refine x_condF f rfl ?_
   refine wp_skip ?_
   refine x_bn ?_
   refine x_tn ?_
   refine sx_list ?_
   refine l_do f rfl rfl rfl (y_add rfl rfl rfl rfl (by omega)) ?_; clear f A; intro A f
   refine l_do f rfl rfl rfl (y_move rfl rfl) ?_; clear f A; intro A f
   refine wpList_nil ?_
   refine x_tn ?_
   exact ⟨n - (k + 1), by omega, k + 1, rfl, by omega, f.sub ⟨rfl, rfl, rfl, rfl, trivial⟩, B0, fun j hj => by by_cases e : j = k; (subst e; rw [hXu.out]; exact fun h => c3 h.symm); exact hno j (by omega)⟩
 ·clear f A; intro c2 A f
  refine wpList_nil ?_
  refine x_tn ?_
  refine wp_seq ?_
  refine x_condF f rfl ?_
  refine wp_exit ?_
  refine x_te ?_
  refine x_te ?_
  refine x_bh ?_
  refine x_tn ?_
  refine wp_seq ?_
  refine sx_list ?_
  refine l_do f rfl rfl rfl (y_assign rfl rfl) ?_; clear f A; intro A f
  refine wpList_nil ?_
  refine x_tn ?_
  refine wp_ret ?_
  refine x_ret1 f rfl rfl ?_
  exact ⟨.inr ⟨rfl, fun j hj => hno j (by omega)⟩, B0⟩
theorem intHas_any (w : World) (ao : Option Addr) (n cap : Nat) (v : Int) (l : List Int) (h : Nums w ao n l) :
    Calls Try.prog 69 #[.slice ao n cap, .int .i64 v] w fun e w' => RetB e (v ∈ l) ∧ Below w.heap.size w w' := by
 have B0 := Below.refl w.heap.size w
 refine sx_enter (args := [_, _]) 9 Try.func69 rfl rfl rfl ?_
 intro A f
 refine wp_seq ?_
 refine sx_list ?_
 refine l_do f rfl rfl rfl (y_assign rfl rfl) ?_; clear f A; intro A f
 refine wpList_nil ?_
 refine x_tn ?_
 refine wp_seq ?_
 refine sx_list ?_
 refine l_do f rfl rfl rfl (y_move rfl rfl) ?_; clear f A; intro A f
 refine l_do f rfl rfl rfl (y_move rfl rfl) ?_; clear f A; intro A f
 refine l_call f rfl rfl rfl (IsCall.mk' (cap := []) rfl rfl rfl) (pl rfl) (intIdx_any _ ao n cap v l (h.below B0)) ?_; clear f A; rintro _ W1 ⟨hF, hb2⟩
 rcases hF with ⟨k, hk, rfl, hg⟩ | ⟨rfl, hg⟩
 ·refine ⟨_, rfl, ?_⟩
  intro A f
  replace B0 := Below.next B0 hb2
  refine l_if _ f rfl rfl rfl (y_geq rfl rfl rfl) ?_ ?_
  ·clear f A; intro c3 A f
   refine l_do f rfl rfl rfl (y_assign rfl rfl) ?_; clear f A; intro A f
   refine wpList_nil ?_
   refine x_tn ?_
   refine wp_ret ?_
   refine x_ret1 f rfl rfl ?_
   exact ⟨retB_true (by rw [← hg]; exact getD_mem (d := (0 : Int)) (by have := h.len; omega)), B0⟩
  ·intro c3; exfalso; omega
 ·refine ⟨_, rfl, ?_⟩
  intro A f
  replace B0 := Below.next B0 hb2
  refine l_if _ f rfl rfl rfl (y_geq rfl rfl rfl) ?_ ?_
  ·intro c4; exfalso; omega
  ·clear f A; intro c4 A f
   refine l_do f rfl rfl rfl (y_assign rfl rfl) ?_; clear f A; intro A f
   refine wpList_nil ?_
   refine x_tn ?_
   refine wp_ret ?_
   refine x_ret1 f rfl rfl ?_
   exact ⟨retB_false (fun hv => by
    obtain ⟨i, hi, rfl⟩ := List.getElem_of_mem hv
    exact hg i (by have := h.len; omega) (by rw [List.getD_eq_getElem?_getD, List.getElem?_eq_getElem hi]; rfl)), B0⟩
theorem slIsFree_any (w : World) (x : Sy) (b : Bk) (a : Int) (hx : x.At w) {c : Ch} (hch : ChainOk x.words c b) :
    Calls Try.prog 51 #[.agg #[.slice x.wo x.wn x.wc, .slice x.h.zo x.h.zn x.h.zc, .slice x.h.mo x.h.mn x.h.mc, .int .i64 x.h.cpus, .slice x.h.lo x.h.ln x.h.lc, .slice x.h.vo x.h.vn x.h.vc, .slice x.co x.cn x.cc], .agg #[.int .i64 b.a, .int .i64 b.o, .int .i64 b.t], .int .i64 a] w fun e w' => RetB e (FreeAt x.words b a) ∧ Below w.heap.size w w' := by
 have B0 := Below.refl w.heap.size w
 refine sx_enter (args := [_, _, _]) 26 Try.func51 rfl rfl rfl ?_
 intro A f
 refine wp_seq ?_
 refine sx_list ?_
 refine l_box f rfl rfl rfl rfl rfl ?_; clear f A; intro b1 W2 eb1 hb3 rb1 A f; dsimp only [Value.cells] at rb1
 have z_B0_b1 := B0.size; rw [eb1] at z_B0_b1
 replace B0 := Below.next B0 hb3
 refine l_box f rfl rfl rfl rfl rfl ?_; clear f A; intro b4 W5 eb4 hb6 rb4 A f; dsimp only [Value.cells] at rb4
 have o_b1_b4 : b1 < b4 := by have := row_lt rb1; omega
 have z_B0_b4 := B0.size; rw [eb4] at z_B0_b4
 replace B0 := Below.next B0 hb6; replace rb1 := row_next rb1 hb6
 refine l_do f rfl rfl rfl (y_assign rfl rfl) ?_; clear f A; intro A f
 refine wpList_nil ?_
 refine x_tn ?_
 refine wp_seq ?_
 refine sx_list ?_
 refine l_do f rfl rfl rfl (y_field rfl rfl (fo rfl)) ?_; clear f A; intro A f
 refine l_do f rfl rfl rfl (y_load1 rfl rfl (ag rfl) (rowl (rowq rb1) rfl)) ?_; clear f A; intro A f
 refine l_do f rfl rfl rfl (y_field rfl rfl (fo rfl)) ?_; clear f A; intro A f
 refine l_do f rfl rfl rfl (y_load1 rfl rfl (ag rfl) (rowl (rowq rb4) rfl)) ?_; clear f A; intro A f
 refine l_do f rfl rfl rfl (y_field rfl rfl (fo rfl)) ?_; clear f A; intro A f
 refine l_do f rfl rfl rfl (y_load1 rfl rfl (ag rfl) (rowl (rowq rb4) rfl)) ?_; clear f A; intro A f
 refine l_call f rfl rfl rfl (IsCall.mk' (cap := []) rfl rfl rfl) (pl rfl) (follow_b _ x.wo x.wn x.wc b.t b.o x.words hx.words.len hx.words.reach (hx.words.below B0).at_) ?_
 clear f A; rintro _ W7 ⟨⟨lo, ln, lc, er, rfl, hcase⟩, hb8⟩; refine ⟨_, rfl, ?_⟩; intro A f; replace B0 := Below.next B0 hb8; replace rb1 := row_next rb1 hb8; replace rb4 := row_next rb4 hb8
 obtain ⟨l, rfl, hL, h0, hfl, -⟩ : ∃ l : List Int, er = 0 ∧ Nums W7 lo ln l ∧ 0 ≤ b.o ∧ fol x.words (min b.o.toNat x.words.length) b.t = some l ∧ True := by
  obtain ⟨h0, l, hf, -⟩ := hch
  rcases hcase with ⟨_, _, hn | hn⟩ | ⟨l2, he, hL, hO, hfl, _⟩
  ·omega
  ·rw [hf] at hn; cases hn
  ·exact ⟨l2, he, hL, hO, hfl, trivial⟩
 refine l_do f rfl rfl rfl (y_move rfl rfl) ?_; clear f A; intro A f
 refine l_do f rfl rfl rfl (y_ext rfl rfl rfl) ?_; clear f A; intro A f
 refine l_do f rfl rfl rfl (y_ext rfl rfl rfl) ?_; clear f A; intro A f
 refine l_do f rfl rfl rfl (y_assign rfl rfl) ?_; clear f A; intro A f
 refine l_do f rfl rfl rfl (y_assign rfl rfl) ?_; clear f A; intro A f
 refine wpList_nil ?_
 refine x_tn ?_
 refine wp_seq ?_
 refine sx_list ?_
 refine l_do f rfl rfl rfl (y_move rfl rfl) ?_; clear f A; intro A f
 refine l_if _ f rfl rfl rfl (y_eql rfl rfl rfl) ?_ ?_
 ·clear f A; intro c9 A f
  refine l_do f rfl rfl rfl (y_move rfl rfl) ?_; clear f A; intro A f
  refine l_do f rfl rfl rfl (y_move rfl rfl) ?_; clear f A; intro A f
  refine l_do f rfl rfl rfl (y_move rfl rfl) ?_; clear f A; intro A f
  refine l_callB _ f rfl rfl rfl (IsCall.mk' (cap := []) rfl rfl rfl) (pl rfl) (intHas_any _ lo ln lc a l hL) ?_ ?_
  ·clear f A; intro c10 W12 hb11 A f
   replace B0 := Below.next B0 hb11; replace hL := hL.below hb11; replace rb1 := row_next rb1 hb11; replace rb4 := row_next rb4 hb11
   refine l_do f rfl rfl rfl (y_pick rfl rfl rfl) ?_; clear f A; intro A f
   refine l_do f rfl rfl rfl (y_assign rfl rfl) ?_; clear f A; intro A f
   refine wpList_nil ?_
   refine x_tn ?_
   refine wp_ret ?_
   refine x_ret1 f rfl rfl ?_
   exact ⟨retB_true ⟨l, hfl, c10⟩, B0⟩
  ·clear f A; intro c10 W12 hb11 A f
   replace B0 := Below.next B0 hb11; replace hL := hL.below hb11; replace rb1 := row_next rb1 hb11; replace rb4 := row_next rb4 hb11
   refine l_do f rfl rfl rfl (y_pick rfl rfl rfl) ?_; clear f A; intro A f
   refine l_do f rfl rfl rfl (y_assign rfl rfl) ?_; clear f A; intro A f
   refine wpList_nil ?_
   refine x_tn ?_
   refine wp_ret ?_
   refine x_ret1 f rfl rfl ?_
   exact ⟨retB_false (fun ⟨l2, h2, h3⟩ => c10 (by rw [hfl] at h2; cases h2; exact h3)), B0⟩
 ·intro c9; exfalso; omega
theorem slWithF_any (w : World) (x : Sy) (c : Cc) (b : Bk) (a : Int) (p q r : Nat) (rp : w.heap[p]? = some (.cells #[.slice c.no c.nn c.nc, .int .i64 c.c.size, .int .i64 c.c.per, .int .i64 c.c.order, .slice c.so c.sn c.sc, .slice c.ao c.an c.ac] 45 (0, 0))) (rq : w.heap[q]? = some (.cells #[.int .i64 a] 3 (0, 0))) (rr : w.heap[r]? = some (.cells #[.slice x.wo x.wn x.wc, .slice x.h.zo x.h.zn x.h.zc, .slice x.h.mo x.h.mn x.h.mc, .int .i64 x.h.cpus, .slice x.h.lo x.h.ln x.h.lc, .slice x.h.vo x.h.vn x.h.vc, .slice x.co x.cn x.cc] 30 (0, 0))) (hx : x.At w) (hs : 1 ≤ c.c.size ∧ c.c.size ≤ 64) (hp : c.c.per = layN c.c.size) (hba : 0 ≤ b.a ∧ b.a < 256) (ha : (Lit.int .i64 a).wf = true) (hch : ChainOk x.words c.c b) :
    Calls Try.prog 49 #[slabV b, .pointer (some ⟨p, 0, none⟩), .pointer (some ⟨q, 0, none⟩), .pointer (some ⟨r, 0, none⟩)] w fun e w' => RetB e (objAt c.c b a ∧ ¬ FreeAt x.words b a) ∧ Below w.heap.size w w' := by
 have B0 := Below.refl w.heap.size w
 refine sx_enter (args := [_, _, _, _]) 17 Try.func49 rfl rfl rfl ?_
 intro A f
 refine wp_seq ?_
 refine sx_list ?_
 refine l_box f rfl rfl rfl rfl rfl ?_; clear f A; intro b1 W2 eb1 hb3 rb1 A f; dsimp only [Value.cells] at rb1
 have o_p_b1 : p < b1 := by have := row_lt rp; omega
 have o_q_b1 : q < b1 := by have := row_lt rq; omega
 have o_r_b1 : r < b1 := by have := row_lt rr; omega
 have z_B0_b1 := B0.size; rw [eb1] at z_B0_b1
 replace B0 := Below.next B0 hb3; replace rp := row_next rp hb3; replace rq := row_next rq hb3; replace rr := row_next rr hb3
 refine l_do f rfl rfl rfl (y_assign rfl rfl) ?_; clear f A; intro A f
 refine wpList_nil ?_
 refine x_tn ?_
 refine wp_seq ?_
 refine sx_list ?_
 refine l_do f rfl rfl rfl (y_loadN (vs := [_, _, _, _, _, _]) rfl rfl (ag rfl) rfl (rowls (rowq rp) _ _ ⟨rfl, rfl, rfl, rfl, rfl, rfl, trivial⟩)) ?_; clear f A; intro A f
 refine l_do f rfl rfl rfl (y_loadN (vs := [_, _, _]) rfl rfl (ag rfl) rfl (rowls (rowq rb1) _ _ ⟨rfl, rfl, rfl, trivial⟩)) ?_; clear f A; intro A f
 refine l_do f rfl rfl rfl (y_load1 rfl rfl (ag rfl) (rowl (rowq rq) rfl)) ?_; clear f A; intro A f
 refine l_callB _ f rfl rfl rfl (IsCall.mk' (cap := []) rfl rfl rfl) (pl rfl) (slIsObj_any _ c b a ha hs hp hba) ?_ ?_
 ·clear f A; intro c4 W6 hb5 A f
  replace B0 := Below.next B0 hb5; replace rp := row_next rp hb5; replace rq := row_next rq hb5; replace rr := row_next rr hb5; replace rb1 := row_next rb1 hb5
  refine l_do f rfl rfl rfl (y_move rfl rfl) ?_; clear f A; intro A f
  refine l_do f rfl rfl rfl (y_loadN (vs := [_, _, _, _, _, _, _]) rfl rfl (ag rfl) rfl (rowls (rowq rr) _ _ ⟨rfl, rfl, rfl, rfl, rfl, rfl, rfl, trivial⟩)) ?_; clear f A; intro A f
  refine l_do f rfl rfl rfl (y_loadN (vs := [_, _, _]) rfl rfl (ag rfl) rfl (rowls (rowq rb1) _ _ ⟨rfl, rfl, rfl, trivial⟩)) ?_; clear f A; intro A f
  refine l_do f rfl rfl rfl (y_load1 rfl rfl (ag rfl) (rowl (rowq rq) rfl)) ?_; clear f A; intro A f
  refine l_callB _ f rfl rfl rfl (IsCall.mk' (cap := []) rfl rfl rfl) (pl rfl) (slIsFree_any _ x b a (hx.below B0) hch) ?_ ?_
  ·clear f A; intro c7 W9 hb8 A f
   replace B0 := Below.next B0 hb8; replace rp := row_next rp hb8; replace rq := row_next rq hb8; replace rr := row_next rr hb8; replace rb1 := row_next rb1 hb8
   refine l_do f rfl rfl rfl (y_not rfl rfl) ?_; clear f A; intro A f
   refine l_do f rfl rfl rfl (y_pick rfl rfl rfl) ?_; clear f A; intro A f
   refine l_do f rfl rfl rfl (y_assign rfl rfl) ?_; clear f A; intro A f
   refine wpList_nil ?_
   refine x_tn ?_
   refine wp_ret ?_
   refine x_ret1 f rfl rfl ?_
   exact ⟨retB_false (fun h => h.2 c7), B0⟩
  ·clear f A; intro c7 W9 hb8 A f
   replace B0 := Below.next B0 hb8; replace rp := row_next rp hb8; replace rq := row_next rq hb8; replace rr := row_next rr hb8; replace rb1 := row_next rb1 hb8
   refine l_do f rfl rfl rfl (y_not rfl rfl) ?_; clear f A; intro A f
   refine l_do f rfl rfl rfl (y_pick rfl rfl rfl) ?_; clear f A; intro A f
   refine l_do f rfl rfl rfl (y_assign rfl rfl) ?_; clear f A; intro A f
   refine wpList_nil ?_
   refine x_tn ?_
   refine wp_ret ?_
   refine x_ret1 f rfl rfl ?_
   exact ⟨retB_true ⟨c4, c7⟩, B0⟩
 ·clear f A; intro c4 W6 hb5 A f
  replace B0 := Below.next B0 hb5; replace rp := row_next rp hb5; replace rq := row_next rq hb5; replace rr := row_next rr hb5; replace rb1 := row_next rb1 hb5
  refine l_do f rfl rfl rfl (y_move rfl rfl) ?_; clear f A; intro A f
  refine l_no f rfl rfl rfl ?_; clear f A; intro A f
  refine l_no f rfl rfl rfl ?_; clear f A; intro A f
  refine l_no f rfl rfl rfl ?_; clear f A; intro A f
  refine l_no f rfl rfl rfl ?_; clear f A; intro A f
  refine l_no f rfl rfl rfl ?_; clear f A; intro A f
  refine l_do f rfl rfl rfl (y_pick rfl rfl rfl) ?_; clear f A; intro A f
  refine l_do f rfl rfl rfl (y_assign rfl rfl) ?_; clear f A; intro A f
  refine wpList_nil ?_
  refine x_tn ?_
  refine wp_ret ?_
  refine x_ret1 f rfl rfl ?_
  exact ⟨retB_false (fun h => c4 h.1), B0⟩
theorem slWith_any (w : World) (x : Sy) (c : Cc) (a : Int) (hx : x.At w) (hc : c.At w) (hs : 1 ≤ c.c.size ∧ c.c.size ≤ 64) (hp : c.c.per = layN c.c.size) (ha : (Lit.int .i64 a).wf = true) (hsl : ∀ i, i < c.sn → (0 ≤ (c.c.slabs.getD i .zero).a ∧ (c.c.slabs.getD i .zero).a < 256) ∧ ChainOk x.words c.c (c.c.slabs.getD i .zero)) :
    Calls Try.prog 23 #[.agg #[.slice x.wo x.wn x.wc, .slice x.h.zo x.h.zn x.h.zc, .slice x.h.mo x.h.mn x.h.mc, .int .i64 x.h.cpus, .slice x.h.lo x.h.ln x.h.lc, .slice x.h.vo x.h.vn x.h.vc, .slice x.co x.cn x.cc], .agg #[.slice c.no c.nn c.nc, .int .i64 c.c.size, .int .i64 c.c.per, .int .i64 c.c.order, .slice c.so c.sn c.sc, .slice c.ao c.an c.ac], .int .i64 a] w fun e w' => slabFound e c.sn c.c.slabs (fun b => objAt c.c b a ∧ ¬ FreeAt x.words b a) ∧ Below w.heap.size w w' := by
 have B0 := Below.refl w.heap.size w
 refine sx_enter (args := [_, _, _]) 11 Try.func23 rfl rfl rfl ?_
 intro A f
 refine wp_seq ?_
 refine sx_list ?_
 refine l_box f rfl rfl rfl rfl rfl ?_; clear f A; intro b1 W2 eb1 hb3 rb1 A f; dsimp only [Value.cells] at rb1
 have z_B0_b1 := B0.size; rw [eb1] at z_B0_b1
 replace B0 := Below.next B0 hb3
 refine l_box f rfl rfl rfl rfl rfl ?_; clear f A; intro b4 W5 eb4 hb6 rb4 A f; dsimp only [Value.cells] at rb4
 have o_b1_b4 : b1 < b4 := by have := row_lt rb1; omega
 have z_B0_b4 := B0.size; rw [eb4] at z_B0_b4
 replace B0 := Below.next B0 hb6; replace rb1 := row_next rb1 hb6
 refine l_box f rfl rfl rfl rfl rfl ?_; clear f A; intro b7 W8 eb7 hb9 rb7 A f; dsimp only [Value.cells] at rb7
 have o_b1_b7 : b1 < b7 := by have := row_lt rb1; omega
 have o_b4_b7 : b4 < b7 := by have := row_lt rb4; omega
 have z_B0_b7 := B0.size; rw [eb7] at z_B0_b7
 replace B0 := Below.next B0 hb9; replace rb1 := row_next rb1 hb9; replace rb4 := row_next rb4 hb9
 refine l_do f rfl rfl rfl (y_assign rfl rfl) ?_; clear f A; intro A f
 refine wpList_nil ?_
 refine x_tn ?_
 refine wp_seq ?_
 refine sx_list ?_
 refine l_do f rfl rfl rfl (y_field rfl rfl (fo rfl)) ?_; clear f A; intro A f
 refine l_do f rfl rfl rfl (y_load1 rfl rfl (ag rfl) (rowl (rowq rb4) rfl)) ?_; clear f A; intro A f
 refine l_do f rfl rfl rfl (y_func rfl rfl) ?_; clear f A; intro A f
 have hcc := slabIndex_any _ 49 [.pointer (some ⟨b4, 0, none⟩), .pointer (some ⟨b7, 0, none⟩), .pointer (some ⟨b1, 0, none⟩)] (pl rfl) c.so c.sn c.sc c.c.slabs (fun b => objAt c.c b a ∧ ¬ FreeAt x.words b a) (hc.slabs.below B0) (fun i hi W hW => slWithF_any W x c (c.c.slabs.getD i .zero) a b4 b7 b1 (row_next rb4 hW) (row_next rb7 hW) (row_next rb1 hW) ((hx.below B0).below hW) hs hp (hsl i hi).1 ha (hsl i hi).2)
 refine l_call f rfl rfl rfl (IsCall.mk' (cap := []) rfl rfl rfl) (pl rfl) hcc ?_; clear f A; rintro _ W10 ⟨hF, hb11⟩
 rcases hF with ⟨k, hk, rfl, hg, hj⟩ | ⟨rfl, hg⟩
 ·refine ⟨_, rfl, ?_⟩
  intro A f
  replace B0 := Below.next B0 hb11; replace rb1 := row_next rb1 hb11; replace rb4 := row_next rb4 hb11; replace rb7 := row_next rb7 hb11
  refine l_do f rfl rfl rfl (y_assign rfl rfl) ?_; clear f A; intro A f
  refine wpList_nil ?_
  refine x_tn ?_
  refine wp_ret ?_
  refine x_ret1 f rfl rfl ?_
  exact ⟨.inl ⟨k, hk, rfl, hg, hj⟩, B0⟩
 ·refine ⟨_, rfl, ?_⟩
  intro A f
  replace B0 := Below.next B0 hb11; replace rb1 := row_next rb1 hb11; replace rb4 := row_next rb4 hb11; replace rb7 := row_next rb7 hb11
  refine l_do f rfl rfl rfl (y_assign rfl rfl) ?_; clear f A; intro A f
  refine wpList_nil ?_
  refine x_tn ?_
  refine wp_ret ?_
  refine x_ret1 f rfl rfl ?_
  exact ⟨.inr ⟨rfl, hg⟩, B0⟩
end Go.Proofs.Ytnijjpakpphhhaa
namespace Go.Proofs.Ytnijjpakpphhhaa.Kit
open Go Go.RowKit
theorem x_ret3 {P : Program} {N : Nat} {L : List (Nat × Value)} {A : Act} {w : World} {fn : Func} {R : Ending → World → Prop} {t u s : Tmp} {v v' v'' : Value} (f : Fr A N L) (hr : fn.results = #[.tmp t, .tmp u, .tmp s]) (hv : look L t = some v) (hv' : look L u = some v') (hv'' : look L s = some v'') (h : R (.returned (.tuple #[v, v', v''])) w) : bodyPost P fn R .ret A w := by
 refine ⟨f.defs, _, ?_, h⟩
 rw [results_tmp3 hr, f.at_ t v hv, f.at_ u v' hv', f.at_ s v'' hv'']
end Go.Proofs.Ytnijjpakpphhhaa.Kit
namespace Go.Proofs.Ytnijjpakpphhhaa
open Go Go.RowKit Go.Proofs.Ytnijjpakpphhhaa.Kit
def NoHit (words : List Int) (c : Ch) (a : Int) : Prop := ∀ j, j < c.slabs.length → ¬ (objAt c (c.slabs.getD j .zero) a ∧ ¬ FreeAt words (c.slabs.getD j .zero) a)
theorem slFind_any (w : World) (x : Sy) (a : Int) (hx : x.At w) (hf : ∀ c ∈ x.cs, c.Fits) (ha : (Lit.int .i64 a).wf = true) :
    Calls Try.prog 10 #[.agg #[.slice x.wo x.wn x.wc, .slice x.h.zo x.h.zn x.h.zc, .slice x.h.mo x.h.mn x.h.mc, .int .i64 x.h.cpus, .slice x.h.lo x.h.ln x.h.lc, .slice x.h.vo x.h.vn x.h.vc, .slice x.co x.cn x.cc], .int .i64 a] w fun e w' => ((SMay x.sp ∧ ((∃ i p : Nat, i < x.cs.length ∧ p < (x.cs.getD i .zero).c.slabs.length ∧ e = .returned (.tuple #[.int .i64 (i : Nat), .int .i64 (p : Nat), .int .i64 0]) ∧ objAt (x.cs.getD i .zero).c ((x.cs.getD i .zero).c.slabs.getD p .zero) a ∧ ¬ FreeAt x.words ((x.cs.getD i .zero).c.slabs.getD p .zero) a) ∨ (e = .returned (.tuple #[.int .i64 0, .int .i64 0, .int .i64 4]) ∧ ∀ i, i < x.cs.length → NoHit x.words (x.cs.getD i .zero).c a))) ∨ (¬ SMay x.sp ∧ e = .returned (.tuple #[.int .i64 0, .int .i64 0, .int .i64 8]))) ∧ Below w.heap.size w w' := by
 have hcl := hx.caches.len
 have hcr := hx.caches.reach
 have B0 := Below.refl w.heap.size w
 refine sx_enter (args := [_, _]) 33 Try.func10 rfl rfl rfl ?_
 intro A f
 refine wp_seq ?_
 refine sx_list ?_
 refine l_box f rfl rfl rfl rfl rfl ?_; clear f A; intro b1 W2 eb1 hb3 rb1 A f; dsimp only [Value.cells] at rb1
 have z_B0_b1 := B0.size; rw [eb1] at z_B0_b1
 replace B0 := Below.next B0 hb3
 refine l_do f rfl rfl rfl (y_assign rfl rfl) ?_; clear f A; intro A f
 refine l_do f rfl rfl rfl (y_assign rfl rfl) ?_; clear f A; intro A f
 refine l_do f rfl rfl rfl (y_assign rfl rfl) ?_; clear f A; intro A f
 refine wpList_nil ?_
 refine x_tn ?_
 refine wp_seq ?_
 refine wp_seq ?_
 refine sx_list ?_
 refine l_do f rfl rfl rfl (y_loadN (vs := [_, _, _, _, _, _, _]) rfl rfl (ag rfl) rfl (rowls (rowq rb1) _ _ ⟨rfl, rfl, rfl, rfl, rfl, rfl, rfl, trivial⟩)) ?_; clear f A; intro A f
 refine l_call f rfl rfl rfl (IsCall.mk' (cap := []) rfl rfl rfl) (pl rfl) (slCheck_any _ x (hx.below B0) hf) ?_; clear f A; rintro _ W4 ⟨⟨q, rfl, hq⟩, hb5⟩
 rcases hq with ⟨rfl, hm⟩ | ⟨rfl, hm⟩
 ·refine ⟨_, rfl, ?_⟩
  intro A f
  replace B0 := Below.next B0 hb5; replace rb1 := row_next rb1 hb5
  refine l_do f rfl rfl rfl (y_assign rfl rfl) ?_; clear f A; intro A f
  refine wpList_nil ?_
  refine x_tn ?_
  refine wp_seq ?_
  refine sx_list ?_
  refine l_do f rfl rfl rfl (y_move rfl rfl) ?_; clear f A; intro A f
  refine l_if _ f rfl rfl rfl (y_neq rfl rfl rfl) ?_ ?_
  ·intro c6; exfalso; omega
  ·clear f A; intro c6 A f
   refine wpList_nil ?_
   refine x_tn ?_
   refine x_condF f rfl ?_
   refine wp_skip ?_
   refine x_tn ?_
   refine wp_seq ?_
   refine wp_seq ?_
   refine sx_list ?_
   refine l_do f rfl rfl rfl (y_field rfl rfl (fo rfl)) ?_; clear f A; intro A f
   refine l_do f rfl rfl rfl (y_load1 rfl rfl (ag rfl) (rowl (rowq rb1) rfl)) ?_; clear f A; intro A f
   refine l_do f rfl rfl rfl (y_len rfl rfl (sl rfl)) ?_; clear f A; intro A f
   refine l_do f rfl rfl rfl (y_move rfl rfl) ?_; clear f A; intro A f
   refine wpList_nil ?_
   refine x_tn ?_
   refine wp_block ?_
   refine x_loop (fun n A W => ∃ k : Nat, n = x.cn - k ∧ k ≤ x.cn ∧ Fr A 33 [(1, .int .i64 a), (2, .pointer (some ⟨b1, 0, none⟩)), (17, .slice x.co x.cn x.cc), (18, .int .i64 (x.cn : Nat)), (19, .int .i64 (k : Nat))] ∧ Below w.heap.size w W ∧ W.heap[b1]? = some (.cells #[.slice x.wo x.wn x.wc, .slice x.h.zo x.h.zn x.h.zc, .slice x.h.mo x.h.mn x.h.mc, .int .i64 x.h.cpus, .slice x.h.lo x.h.ln x.h.lc, .slice x.h.vo x.h.vn x.h.vc, .slice x.co x.cn x.cc] 30 (0, 0)) ∧ ∀ i, i < k → NoHit x.words (x.cs.getD i .zero).c a) (n0 := x.cn) (⟨0, rfl, Nat.zero_le _, f.sub ⟨rfl, rfl, rfl, rfl, rfl, trivial⟩, B0, rb1, fun i hi => absurd hi (Nat.not_lt_zero i)⟩) ?_
   clear f A
   clear B0 rb1
   rintro n A W7 ⟨k, hn, hk, f, B0, rb1, hd⟩
   refine wp_seq ?_
   refine sx_list ?_
   refine l_if _ f rfl rfl rfl (y_lss rfl rfl rfl) ?_ ?_
   ·clear f A; intro c8 A f
    refine wpList_nil ?_
    refine x_tn ?_
    refine wp_seq ?_
    refine x_condT f rfl ?_
    refine wp_skip ?_
    refine x_tn ?_
    refine wp_seq ?_
    refine wp_block ?_
    refine wp_seq ?_
    refine sx_list ?_
    refine l_do f rfl rfl rfl (y_move rfl rfl) ?_; clear f A; intro A f
    obtain ⟨ga, oa, nma, sza, pra, ora, sla, aca, noa, nna, nca, soa, sna, sca, aoa, ana, aka, haa, c0a, c1a, c2a, c3a, c4a, c5a, hNa, hBa, hAa, hXa⟩ := (hx.caches).at (k) (by omega)
    replace c0a := St.of c0a; replace c1a := St.of c1a; replace c2a := St.of c2a; replace c3a := St.of c3a; replace c4a := St.of c4a; replace c5a := St.of c5a
    have hch : ChMay x.words x.h.hp (x.cs.getD k .zero).c := hm.each _ (List.mem_map_of_mem (getD_mem (d := Cc.zero) (show k < x.cs.length by omega)))
    have hcat := hx.caches.at_ _ (getD_mem (d := Cc.zero) (show k < x.cs.length by omega))
    rw [hXa.out] at hch hcat
    have l2 := hBa.len
    refine l_do f rfl rfl rfl (y_index rfl rfl (by first | rfl | assumption) rfl (es rfl) (by omega)) ?_; clear f A; intro A f
    refine l_do f rfl rfl rfl (y_loadN (vs := [_, _, _, _, _, _]) rfl rfl (ag rfl) rfl ⟨(by first | assumption | exact St.q c0a B0 | exact St.q c1a B0 | exact St.q c2a B0 | exact St.q c3a B0 | exact St.q c4a B0 | exact St.q c5a B0), (by first | assumption | exact St.q c0a B0 | exact St.q c1a B0 | exact St.q c2a B0 | exact St.q c3a B0 | exact St.q c4a B0 | exact St.q c5a B0), (by first | assumption | exact St.q c0a B0 | exact St.q c1a B0 | exact St.q c2a B0 | exact St.q c3a B0 | exact St.q c4a B0 | exact St.q c5a B0), (by first | assumption | exact St.q c0a B0 | exact St.q c1a B0 | exact St.q c2a B0 | exact St.q c3a B0 | exact St.q c4a B0 | exact St.q c5a B0), (by first | assumption | exact St.q c0a B0 | exact St.q c1a B0 | exact St.q c2a B0 | exact St.q c3a B0 | exact St.q c4a B0 | exact St.q c5a B0), (by first | assumption | exact St.q c0a B0 | exact St.q c1a B0 | exact St.q c2a B0 | exact St.q c3a B0 | exact St.q c4a B0 | exact St.q c5a B0), trivial⟩) ?_; clear f A; intro A f
    refine l_alloc (z := .agg #[.slice none 0 0, .int .i64 0, .int .i64 0, .int .i64 0, .slice none 0 0, .slice none 0 0]) f rfl rfl rfl rfl (by kernel_rfl) ?_; clear f A; intro b9 W10 eb9 hb11 rb9 A f; dsimp only [Value.cells] at rb9
    have o_b1_b9 : b1 < b9 := by have := row_lt rb1; omega
    have z_B0_b9 := B0.size; rw [eb9] at z_B0_b9
    replace B0 := Below.next B0 hb11; replace rb1 := row_next rb1 hb11
    refine l_do f rfl rfl rfl (y_assign rfl rfl) ?_; clear f A; intro A f
    refine l_store f rfl rfl rfl rfl rfl rb9 (sz rfl) rfl (Nat.le_of_ble_eq_true rfl) rfl ?_
    clear rb9; intro W12 hb13 rb9; dsimp only [setL, over, Value.cells] at rb9; replace B0 := Below.thenBut B0 hb13 (by omega); replace rb1 := But.row hb13 rb1 (by omega)
    refine wpList_nil ?_
    refine x_tn ?_
    refine wp_seq ?_
    refine sx_list ?_
    refine l_do f rfl rfl rfl (y_loadN (vs := [_, _, _, _, _, _, _]) rfl rfl (ag rfl) rfl (rowls (rowq rb1) _ _ ⟨rfl, rfl, rfl, rfl, rfl, rfl, rfl, trivial⟩)) ?_; clear f A; intro A f
    refine l_do f rfl rfl rfl (y_loadN (vs := [_, _, _, _, _, _]) rfl rfl (ag rfl) rfl (rowls (rowq rb9) _ _ ⟨rfl, rfl, rfl, rfl, rfl, rfl, trivial⟩)) ?_; clear f A; intro A f
    refine l_do f rfl rfl rfl (y_move rfl rfl) ?_; clear f A; intro A f
    refine l_call f rfl rfl rfl (IsCall.mk' (cap := []) rfl rfl rfl) (pl rfl) (slWith_any _ x ⟨⟨nma, sza, pra, ora, sla, aca⟩, noa, nna, nca, soa, sna, sca, aoa, ana, aka⟩ a (hx.below B0) (hcat.below B0) hch.size (by have h1 := hch.per; exact h1) ha (fun i hi => by have hi : i < sna := hi; have hi2 : i < sla.length := (by omega); exact ⟨isLive_at hm.heap (hch.slabs i hi2).2.1, (hch.slabs i hi2).2.2⟩)) ?_; clear f A; rintro _ W14 ⟨hF, hb15⟩
    rcases hF with ⟨p, hp, rfl, hg, hj⟩ | ⟨rfl, hg⟩
    ·refine ⟨_, rfl, ?_⟩
     intro A f
     replace B0 := Below.next B0 hb15; replace rb1 := row_next rb1 hb15; replace rb9 := row_next rb9 hb15
     refine l_do f rfl rfl rfl (y_assign rfl rfl) ?_; clear f A; intro A f
     refine wpList_nil ?_
     refine x_tn ?_
     refine wp_seq ?_
     refine sx_list ?_
     refine l_do f rfl rfl rfl (y_move rfl rfl) ?_; clear f A; intro A f
     refine l_if _ f rfl rfl rfl (y_geq rfl rfl rfl) ?_ ?_
     ·clear f A; intro c16 A f
      refine wpList_nil ?_
      refine x_tn ?_
      refine x_condT f rfl ?_
      refine wp_seq ?_
      refine sx_list ?_
      refine l_do f rfl rfl rfl (y_move rfl rfl) ?_; clear f A; intro A f
      refine l_do f rfl rfl rfl (y_move rfl rfl) ?_; clear f A; intro A f
      refine l_do f rfl rfl rfl (y_assign rfl rfl) ?_; clear f A; intro A f
      refine l_do f rfl rfl rfl (y_assign rfl rfl) ?_; clear f A; intro A f
      refine l_do f rfl rfl rfl (y_assign rfl rfl) ?_; clear f A; intro A f
      refine wpList_nil ?_
      refine x_tn ?_
      refine wp_ret ?_
      refine x_br ?_
      refine x_tr ?_
      refine x_tr ?_
      refine x_br ?_
      refine x_tr ?_
      refine x_ret3 f rfl rfl rfl rfl ?_
      exact ⟨.inl ⟨hm, .inl ⟨k, p, by omega, by rw [hXa.out]; show p < sla.length; have : p < sna := hp; omega, rfl, by rw [hXa.out]; exact hg.1, by rw [hXa.out]; exact hg.2⟩⟩, B0⟩
     ·intro c16; exfalso; omega
    ·refine ⟨_, rfl, ?_⟩
     intro A f
     replace B0 := Below.next B0 hb15; replace rb1 := row_next rb1 hb15; replace rb9 := row_next rb9 hb15
     refine l_do f rfl rfl rfl (y_assign rfl rfl) ?_; clear f A; intro A f
     refine wpList_nil ?_
     refine x_tn ?_
     refine wp_seq ?_
     refine sx_list ?_
     refine l_do f rfl rfl rfl (y_move rfl rfl) ?_; clear f A; intro A f
     refine l_if _ f rfl rfl rfl (y_geq rfl rfl rfl) ?_ ?_
     ·intro c17; exfalso; omega
     ·clear f A; intro c17 A f
      refine wpList_nil ?_
      refine x_tn ?_
      refine x_condF f rfl ?_
      refine wp_skip ?_
      refine x_bn ?_
      refine x_tn ?_
      refine sx_list ?_
      refine l_do f rfl rfl rfl (y_add rfl rfl rfl rfl (by omega)) ?_; clear f A; intro A f
      refine l_do f rfl rfl rfl (y_move rfl rfl) ?_; clear f A; intro A f
      refine wpList_nil ?_
      refine x_tn ?_
      exact ⟨x.cn - (k + 1), by omega, k + 1, rfl, by omega, f.sub ⟨rfl, rfl, rfl, rfl, rfl, trivial⟩, B0, rb1, fun i hi => by by_cases e : i = k; (subst e; rw [hXa.out]; exact fun j hj h => hg j (by have := hBa.len; show j < sna; exact this ▸ hj) h); exact hd i (by omega)⟩
   ·clear f A; intro c8 A f
    refine wpList_nil ?_
    refine x_tn ?_
    refine wp_seq ?_
    refine x_condF f rfl ?_
    refine wp_exit ?_
    refine x_te ?_
    refine x_te ?_
    refine x_bh ?_
    refine x_tn ?_
    refine wp_seq ?_
    refine sx_list ?_
    refine l_do f rfl rfl rfl (y_assign rfl rfl) ?_; clear f A; intro A f
    refine l_do f rfl rfl rfl (y_assign rfl rfl) ?_; clear f A; intro A f
    refine l_do f rfl rfl rfl (y_assign rfl rfl) ?_; clear f A; intro A f
    refine wpList_nil ?_
    refine x_tn ?_
    refine wp_ret ?_
    refine x_ret3 f rfl rfl rfl rfl ?_
    have hke : k = x.cn := by omega
    subst hke
    exact ⟨.inl ⟨hm, .inr ⟨rfl, fun i hi => hd i (by omega)⟩⟩, B0⟩
 ·refine ⟨_, rfl, ?_⟩
  intro A f
  replace B0 := Below.next B0 hb5; replace rb1 := row_next rb1 hb5
  refine l_do f rfl rfl rfl (y_assign rfl rfl) ?_; clear f A; intro A f
  refine wpList_nil ?_
  refine x_tn ?_
  refine wp_seq ?_
  refine sx_list ?_
  refine l_do f rfl rfl rfl (y_move rfl rfl) ?_; clear f A; intro A f
  refine l_if _ f rfl rfl rfl (y_neq rfl rfl rfl) ?_ ?_
  ·clear f A; intro c18 A f
   refine wpList_nil ?_
   refine x_tn ?_
   refine x_condT f rfl ?_
   refine wp_seq ?_
   refine sx_list ?_
   refine l_do f rfl rfl rfl (y_move rfl rfl) ?_; clear f A; intro A f
   refine l_do f rfl rfl rfl (y_assign rfl rfl) ?_; clear f A; intro A f
   refine l_do f rfl rfl rfl (y_assign rfl rfl) ?_; clear f A; intro A f
   refine l_do f rfl rfl rfl (y_assign rfl rfl) ?_; clear f A; intro A f
   refine wpList_nil ?_
   refine x_tn ?_
   refine wp_ret ?_
   refine x_tr ?_
   refine x_ret3 f rfl rfl rfl rfl ?_
   exact ⟨.inr ⟨hm, rfl⟩, B0⟩
  ·intro c18; exfalso; omega
def NoObj (c : Ch) (a : Int) : Prop := ∀ j, j < c.slabs.length → ¬ objAt c (c.slabs.getD j .zero) a
theorem freeAt_iff {xs : List Int} {a x y z : Int} {l : List Int} (h : Chain xs z l) (hl : (l.length : Int) = y) : FreeAt xs ⟨x, y, z⟩ a ↔ a ∈ l := by
 have hf : fol xs (min y.toNat xs.length) z = some l := fol_of_chain h _ (by have := h.few; omega)
 constructor
 ·rintro ⟨m, hm, ha⟩
  have hm : fol xs (min y.toNat xs.length) z = some m := hm
  rw [hf] at hm
  cases hm
  exact ha
 ·exact fun ha => ⟨l, hf, ha⟩
theorem foundOf_any (w : World) (x : Sy) (a : Int) (hx : x.At w) (hf : ∀ c ∈ x.cs, c.Fits) :
    Calls Try.prog 11 #[.agg #[.slice x.wo x.wn x.wc, .slice x.h.zo x.h.zn x.h.zc, .slice x.h.mo x.h.mn x.h.mc, .int .i64 x.h.cpus, .slice x.h.lo x.h.ln x.h.lc, .slice x.h.vo x.h.vn x.h.vc, .slice x.co x.cn x.cc], .int .i64 a] w fun e w' => ((SMay x.sp ∧ ((∃ i p : Nat, i < x.cs.length ∧ p < (x.cs.getD i .zero).c.slabs.length ∧ e = .returned (.tuple #[.int .i64 (i : Nat), .int .i64 (p : Nat), .int .i64 0]) ∧ objAt (x.cs.getD i .zero).c ((x.cs.getD i .zero).c.slabs.getD p .zero) a ∧ ¬ FreeAt x.words ((x.cs.getD i .zero).c.slabs.getD p .zero) a) ∨ (e = .returned (.tuple #[.int .i64 0, .int .i64 0, .int .i64 4]) ∧ ((∀ i, i < x.cs.length → NoObj (x.cs.getD i .zero).c a) ∨ ∃ i p : Nat, i < x.cs.length ∧ p < (x.cs.getD i .zero).c.slabs.length ∧ objAt (x.cs.getD i .zero).c ((x.cs.getD i .zero).c.slabs.getD p .zero) a ∧ FreeAt x.words ((x.cs.getD i .zero).c.slabs.getD p .zero) a)))) ∨ (¬ SMay x.sp ∧ e = .returned (.tuple #[.int .i64 0, .int .i64 0, .int .i64 8]))) ∧ Below w.heap.size w w' := by
 have hcl := hx.caches.len
 have hcr := hx.caches.reach
 have B0 := Below.refl w.heap.size w
 refine sx_enter (args := [_, _]) 78 Try.func11 rfl rfl rfl ?_
 intro A f
 refine wp_seq ?_
 refine sx_list ?_
 refine l_box f rfl rfl rfl rfl rfl ?_; clear f A; intro b1 W2 eb1 hb3 rb1 A f; dsimp only [Value.cells] at rb1
 have z_B0_b1 := B0.size; rw [eb1] at z_B0_b1
 replace B0 := Below.next B0 hb3
 refine l_do f rfl rfl rfl (y_assign rfl rfl) ?_; clear f A; intro A f
 refine l_do f rfl rfl rfl (y_assign rfl rfl) ?_; clear f A; intro A f
 refine l_do f rfl rfl rfl (y_assign rfl rfl) ?_; clear f A; intro A f
 refine wpList_nil ?_
 refine x_tn ?_
 refine wp_seq ?_
 refine wp_seq ?_
 refine sx_list ?_
 refine l_do f rfl rfl rfl (y_loadN (vs := [_, _, _, _, _, _, _]) rfl rfl (ag rfl) rfl (rowls (rowq rb1) _ _ ⟨rfl, rfl, rfl, rfl, rfl, rfl, rfl, trivial⟩)) ?_; clear f A; intro A f
 refine l_callB _ f rfl rfl rfl (IsCall.mk' (cap := []) rfl rfl rfl) (pl rfl) (sysMay_any _ x (hx.below B0) hf) ?_ ?_
 ·clear f A; intro c4 W6 hb5 A f
  replace B0 := Below.next B0 hb5; replace rb1 := row_next rb1 hb5
  refine l_do f rfl rfl rfl (y_not rfl rfl) ?_; clear f A; intro A f
  refine wpList_nil ?_
  refine x_tn ?_
  refine x_condF f rfl ?_
  refine wp_skip ?_
  refine x_tn ?_
  refine wp_seq ?_
  refine wp_seq ?_
  refine sx_list ?_
  refine l_do f rfl rfl rfl (y_assign rfl rfl) ?_; clear f A; intro A f
  refine wpList_nil ?_
  refine x_tn ?_
  refine wp_block ?_
  have hm : SMay x.sp := c4
  refine x_loop (fun n A W => ∃ k : Nat, n = x.cn - k ∧ k ≤ x.cn ∧ Fr A 78 [(1, .int .i64 a), (2, .pointer (some ⟨b1, 0, none⟩)), (7, .int .i64 (k : Nat))] ∧ Below w.heap.size w W ∧ W.heap[b1]? = some (.cells #[.slice x.wo x.wn x.wc, .slice x.h.zo x.h.zn x.h.zc, .slice x.h.mo x.h.mn x.h.mc, .int .i64 x.h.cpus, .slice x.h.lo x.h.ln x.h.lc, .slice x.h.vo x.h.vn x.h.vc, .slice x.co x.cn x.cc] 30 (0, 0)) ∧ ∀ i, i < k → NoObj (x.cs.getD i .zero).c a) (n0 := x.cn) (⟨0, rfl, Nat.zero_le _, f.sub ⟨rfl, rfl, rfl, trivial⟩, B0, rb1, fun i hi => absurd hi (Nat.not_lt_zero i)⟩) ?_
  clear f A
  clear B0 rb1
  rintro n A W7 ⟨k, hn, hk, f, B0, rb1, hd⟩
  refine wp_seq ?_
  refine wp_seq ?_
  refine sx_list ?_
  refine l_do f rfl rfl rfl (y_move rfl rfl) ?_; clear f A; intro A f
  refine l_do f rfl rfl rfl (y_field rfl rfl (fo rfl)) ?_; clear f A; intro A f
  refine l_do f rfl rfl rfl (y_load1 rfl rfl (ag rfl) (rowl (rowq rb1) rfl)) ?_; clear f A; intro A f
  refine l_do f rfl rfl rfl (y_len rfl rfl (sl rfl)) ?_; clear f A; intro A f
  refine l_if _ f rfl rfl rfl (y_lss rfl rfl rfl) ?_ ?_
  ·clear f A; intro c8 A f
   refine wpList_nil ?_
   refine x_tn ?_
   refine x_condT f rfl ?_
   refine wp_skip ?_
   refine x_tn ?_
   refine wp_seq ?_
   refine wp_block ?_
   refine wp_seq ?_
   refine sx_list ?_
   refine l_do f rfl rfl rfl (y_assign rfl rfl) ?_; clear f A; intro A f
   refine wpList_nil ?_
   refine x_tn ?_
   refine wp_block ?_
   obtain ⟨ga, oa, nma, sza, pra, ora, sla, aca, noa, nna, nca, soa, sna, sca, aoa, ana, aka, haa, c0a, c1a, c2a, c3a, c4a, c5a, hNa, hBa, hAa, hXa⟩ := (hx.caches).at (k) (by omega)
   replace c0a := St.of c0a; replace c1a := St.of c1a; replace c2a := St.of c2a; replace c3a := St.of c3a; replace c4a := St.of c4a; replace c5a := St.of c5a
   have hch : ChMay x.words x.h.hp (x.cs.getD k .zero).c := hm.each _ (List.mem_map_of_mem (getD_mem (d := Cc.zero) (show k < x.cs.length by omega)))
   rw [hXa.out] at hch
   have l2 := hBa.len
   have rB := hBa.reach
   refine x_loop (fun n A W => ∃ p : Nat, n = sna - p ∧ p ≤ sna ∧ Fr A 78 [(1, .int .i64 a), (2, .pointer (some ⟨b1, 0, none⟩)), (7, .int .i64 (k : Nat)), (8, .int .i64 (p : Nat))] ∧ Below w.heap.size w W ∧ W.heap[b1]? = some (.cells #[.slice x.wo x.wn x.wc, .slice x.h.zo x.h.zn x.h.zc, .slice x.h.mo x.h.mn x.h.mc, .int .i64 x.h.cpus, .slice x.h.lo x.h.ln x.h.lc, .slice x.h.vo x.h.vn x.h.vc, .slice x.co x.cn x.cc] 30 (0, 0)) ∧ ∀ j, j < p → ¬ objAt ⟨nma, sza, pra, ora, sla, aca⟩ (sla.getD j .zero) a) (n0 := sna) (⟨0, rfl, Nat.zero_le _, f.sub ⟨rfl, rfl, rfl, rfl, trivial⟩, B0, rb1, fun i hi => absurd hi (Nat.not_lt_zero i)⟩) ?_
   clear f A
   clear B0 rb1
   rintro n1 A W9 ⟨p, hn1, hp, f, B0, rb1, hdp⟩
   refine wp_seq ?_
   refine wp_seq ?_
   refine sx_list ?_
   refine l_do f rfl rfl rfl (y_move rfl rfl) ?_; clear f A; intro A f
   refine l_do f rfl rfl rfl (y_field rfl rfl (fo rfl)) ?_; clear f A; intro A f
   refine l_do f rfl rfl rfl (y_load1 rfl rfl (ag rfl) (rowl (rowq rb1) rfl)) ?_; clear f A; intro A f
   refine l_do f rfl rfl rfl (y_move rfl rfl) ?_; clear f A; intro A f
   refine l_do f rfl rfl rfl (y_index rfl rfl (by first | rfl | assumption) rfl (es rfl) (by omega)) ?_; clear f A; intro A f
   refine l_do f rfl rfl rfl (y_field rfl rfl (fo rfl)) ?_; clear f A; intro A f
   refine l_do f rfl rfl rfl (y_load1 rfl rfl (ag rfl) (by first | assumption | exact St.q c0a B0 | exact St.q c1a B0 | exact St.q c2a B0 | exact St.q c3a B0 | exact St.q c4a B0 | exact St.q c5a B0)) ?_; clear f A; intro A f
   refine l_do f rfl rfl rfl (y_len rfl rfl (sl rfl)) ?_; clear f A; intro A f
   refine l_if _ f rfl rfl rfl (y_lss rfl rfl rfl) ?_ ?_
   ·clear f A; intro c10 A f
    refine wpList_nil ?_
    refine x_tn ?_
    refine x_condT f rfl ?_
    refine wp_skip ?_
    refine x_tn ?_
    refine wp_seq ?_
    refine wp_block ?_
    refine wp_seq ?_
    refine sx_list ?_
    refine l_do f rfl rfl rfl (y_field rfl rfl (fo rfl)) ?_; clear f A; intro A f
    refine l_do f rfl rfl rfl (y_load1 rfl rfl (ag rfl) (rowl (rowq rb1) rfl)) ?_; clear f A; intro A f
    refine l_do f rfl rfl rfl (y_move rfl rfl) ?_; clear f A; intro A f
    refine l_do f rfl rfl rfl (y_index rfl rfl (by first | rfl | assumption) rfl (es rfl) (by omega)) ?_; clear f A; intro A f
    refine l_do f rfl rfl rfl (y_field rfl rfl (fo rfl)) ?_; clear f A; intro A f
    refine l_do f rfl rfl rfl (y_load1 rfl rfl (ag rfl) (by first | assumption | exact St.q c0a B0 | exact St.q c1a B0 | exact St.q c2a B0 | exact St.q c3a B0 | exact St.q c4a B0 | exact St.q c5a B0)) ?_; clear f A; intro A f
    refine l_do f rfl rfl rfl (y_move rfl rfl) ?_; clear f A; intro A f
    obtain ⟨ge, oe, bae, boe, bte, hae, c0e, c1e, c2e, hXe⟩ := hBa.at_.at (p) (by have := hBa.len; omega)
    replace c0e := St.of c0e; replace c1e := St.of c1e; replace c2e := St.of c2e
    have hso := hch.slabs p (by show p < sla.length; omega)
    have hrg := isLive_at hm.heap hso.2.1
    have hge : (Ch.slabs ⟨nma, sza, pra, ora, sla, aca⟩).getD p .zero = ⟨bae, boe, bte⟩ := hXe.out
    rw [hge] at hrg hso
    refine l_do f rfl rfl rfl (y_index rfl rfl (by first | rfl | assumption) rfl (es rfl) (by omega)) ?_; clear f A; intro A f
    refine l_do f rfl rfl rfl (y_loadN (vs := [_, _, _]) rfl rfl (ag rfl) rfl ⟨(by first | assumption | exact St.q c0a B0 | exact St.q c1a B0 | exact St.q c2a B0 | exact St.q c3a B0 | exact St.q c4a B0 | exact St.q c5a B0 | exact St.q c0e B0 | exact St.q c1e B0 | exact St.q c2e B0), (by first | assumption | exact St.q c0a B0 | exact St.q c1a B0 | exact St.q c2a B0 | exact St.q c3a B0 | exact St.q c4a B0 | exact St.q c5a B0 | exact St.q c0e B0 | exact St.q c1e B0 | exact St.q c2e B0), (by first | assumption | exact St.q c0a B0 | exact St.q c1a B0 | exact St.q c2a B0 | exact St.q c3a B0 | exact St.q c4a B0 | exact St.q c5a B0 | exact St.q c0e B0 | exact St.q c1e B0 | exact St.q c2e B0), trivial⟩) ?_; clear f A; intro A f
    refine l_as (z := .agg #[.int .i64 0, .int .i64 0, .int .i64 0]) f rfl rfl rfl rfl (by kernel_rfl) rfl rfl (fun _ => rfl) (fun _ => rfl) rfl (by intro u hu; simp [Value.cells] at hu; rcases hu with rfl | rfl | rfl <;> rfl) ?_; clear f A; intro b11 W12 eb11 hb13 rb11 A f
    dsimp only [Value.cells] at rb11
    have hpb11 := hb13
    have o_b1_b11 : b1 < b11 := by have := row_lt rb1; omega
    have z_B0_b11 := B0.size; rw [eb11] at z_B0_b11
    replace B0 := Below.next B0 hb13; replace rb1 := row_next rb1 hb13
    refine wpList_nil ?_
    refine x_tn ?_
    refine wp_seq ?_
    refine wp_seq ?_
    refine sx_quiet (by kernel_rfl) (by kernel_rfl) ?_
    refine q_do f rfl rfl rfl (y_field rfl rfl (fo rfl)) ?_; clear f A; intro A f
    refine q_do f rfl rfl rfl (y_load1 rfl rfl (ag rfl) (rowl (rowq rb1) rfl)) ?_; clear f A; intro A f
    refine q_do f rfl rfl rfl (y_move rfl rfl) ?_; clear f A; intro A f
    refine q_do f rfl rfl rfl (y_index rfl rfl (by first | rfl | assumption) rfl (es rfl) (by omega)) ?_; clear f A; intro A f
    refine q_do f rfl rfl rfl (y_loadN (vs := [_, _, _, _, _, _]) rfl rfl (ag rfl) rfl ⟨(by first | assumption | exact St.q c0a B0 | exact St.q c1a B0 | exact St.q c2a B0 | exact St.q c3a B0 | exact St.q c4a B0 | exact St.q c5a B0 | exact St.q c0e B0 | exact St.q c1e B0 | exact St.q c2e B0), (by first | assumption | exact St.q c0a B0 | exact St.q c1a B0 | exact St.q c2a B0 | exact St.q c3a B0 | exact St.q c4a B0 | exact St.q c5a B0 | exact St.q c0e B0 | exact St.q c1e B0 | exact St.q c2e B0), (by first | assumption | exact St.q c0a B0 | exact St.q c1a B0 | exact St.q c2a B0 | exact St.q c3a B0 | exact St.q c4a B0 | exact St.q c5a B0 | exact St.q c0e B0 | exact St.q c1e B0 | exact St.q c2e B0), (by first | assumption | exact St.q c0a B0 | exact St.q c1a B0 | exact St.q c2a B0 | exact St.q c3a B0 | exact St.q c4a B0 | exact St.q c5a B0 | exact St.q c0e B0 | exact St.q c1e B0 | exact St.q c2e B0), (by first | assumption | exact St.q c0a B0 | exact St.q c1a B0 | exact St.q c2a B0 | exact St.q c3a B0 | exact St.q c4a B0 | exact St.q c5a B0 | exact St.q c0e B0 | exact St.q c1e B0 | exact St.q c2e B0), (by first | assumption | exact St.q c0a B0 | exact St.q c1a B0 | exact St.q c2a B0 | exact St.q c3a B0 | exact St.q c4a B0 | exact St.q c5a B0 | exact St.q c0e B0 | exact St.q c1e B0 | exact St.q c2e B0), trivial⟩) ?_; clear f A; intro A f
    refine q_do f rfl rfl rfl (y_field rfl rfl (fo rfl)) ?_; clear f A; intro A f
    refine q_do f rfl rfl rfl (y_load1 rfl rfl (ag rfl) (rowl (rowq rb11) rfl)) ?_; clear f A; intro A f
    refine q_do f rfl rfl rfl (y_move rfl rfl) ?_; clear f A; intro A f
    have inst := Classical.propDecidable (objAt ⟨nma, sza, pra, ora, sla, aca⟩ ⟨bae, boe, bte⟩ a)
    refine q_callif (objAt ⟨nma, sza, pra, ora, sla, aca⟩ ⟨bae, boe, bte⟩ a) f rfl rfl rfl (IsCall.mk' (cap := []) rfl rfl rfl) (pl rfl) (c_cl fun wx => retB_dec (refIsObj_any wx ⟨⟨nma, sza, pra, ora, sla, aca⟩, noa, nna, nca, soa, sna, sca, aoa, ana, aka⟩ ⟨bae, boe, bte⟩ bae a rfl hch.size hch.per hrg)) ?_ ?_
    ·clear f A; intro c14 A f
     refine q_do f rfl rfl rfl (y_not rfl rfl) ?_; clear f A; intro A f
     refine wpQuiet_nil ?_; intro W16 hb15; replace B0 := Below.next B0 hb15; replace rb1 := row_next rb1 hb15; replace rb11 := row_next rb11 hb15
     refine x_tn ?_
     refine x_condF f rfl ?_
     refine wp_skip ?_
     refine x_tn ?_
     refine wp_seq ?_
     have q_b1 := fun wx (h : Below W16.heap.size W16 wx) => row_next rb1 h
     have q_b11 := fun wx (h : Below W16.heap.size W16 wx) => row_next rb11 h
     have hq0 := fun wx (h : Below W16.heap.size W16 wx) => Below.next B0 h
     refine sx_held (fun wx => Below W16.heap.size W16 wx) [7] (by kernel_rfl) (by kernel_rfl) (blind_then (blind_in (blind_then (blind_then (blind_in (blind_in (blind_then (blind_then (blind_in (blind_then (blind_body))))))))))) ((Below.refl _ _).drew) ?_
     generalize hWd : ({ W16 with drawn := W16.drawn + 1 } : World) = W17
     have hdr := drawn_b9 hWd
     clear hWd
     have hS := hdr
     replace B0 := Below.next B0 hdr; replace rb1 := row_next rb1 hdr; replace rb11 := row_next rb11 hdr
     refine h_do f rfl rfl rfl rfl (y_loadN (vs := [_, _, _, _, _, _, _]) rfl rfl (ag rfl) rfl (rowls q_b1 _ _ ⟨rfl, rfl, rfl, rfl, rfl, rfl, rfl, trivial⟩)) ?_; clear f A; intro A f
     refine h_do f rfl rfl rfl rfl (y_field rfl rfl (fo rfl)) ?_; clear f A; intro A f
     refine h_do f rfl rfl rfl rfl (y_load1 rfl rfl (ag rfl) (rowl q_b1 rfl)) ?_; clear f A; intro A f
     refine h_do f rfl rfl rfl rfl (y_move rfl rfl) ?_; clear f A; intro A f
     refine h_do f rfl rfl rfl rfl (y_index rfl rfl (by first | rfl | assumption) rfl (es rfl) (by omega)) ?_; clear f A; intro A f
     refine h_do f rfl rfl rfl rfl (y_loadN (vs := [_, _, _, _, _, _]) rfl rfl (ag rfl) rfl ⟨(by first | assumption | exact St.c c0a hq0 | exact St.c c1a hq0 | exact St.c c2a hq0 | exact St.c c3a hq0 | exact St.c c4a hq0 | exact St.c c5a hq0 | exact St.c c0e hq0 | exact St.c c1e hq0 | exact St.c c2e hq0), (by first | assumption | exact St.c c0a hq0 | exact St.c c1a hq0 | exact St.c c2a hq0 | exact St.c c3a hq0 | exact St.c c4a hq0 | exact St.c c5a hq0 | exact St.c c0e hq0 | exact St.c c1e hq0 | exact St.c c2e hq0), (by first | assumption | exact St.c c0a hq0 | exact St.c c1a hq0 | exact St.c c2a hq0 | exact St.c c3a hq0 | exact St.c c4a hq0 | exact St.c c5a hq0 | exact St.c c0e hq0 | exact St.c c1e hq0 | exact St.c c2e hq0), (by first | assumption | exact St.c c0a hq0 | exact St.c c1a hq0 | exact St.c c2a hq0 | exact St.c c3a hq0 | exact St.c c4a hq0 | exact St.c c5a hq0 | exact St.c c0e hq0 | exact St.c c1e hq0 | exact St.c c2e hq0), (by first | assumption | exact St.c c0a hq0 | exact St.c c1a hq0 | exact St.c c2a hq0 | exact St.c c3a hq0 | exact St.c c4a hq0 | exact St.c c5a hq0 | exact St.c c0e hq0 | exact St.c c1e hq0 | exact St.c c2e hq0), (by first | assumption | exact St.c c0a hq0 | exact St.c c1a hq0 | exact St.c c2a hq0 | exact St.c c3a hq0 | exact St.c c4a hq0 | exact St.c c5a hq0 | exact St.c c0e hq0 | exact St.c c1e hq0 | exact St.c c2e hq0), trivial⟩) ?_; clear f A; intro A f
     refine h_do f rfl rfl rfl rfl (y_loadN (vs := [_, _, _]) rfl rfl (ag rfl) rfl (rowls q_b11 _ _ ⟨rfl, rfl, rfl, trivial⟩)) ?_; clear f A; intro A f
     have hcat := hx.caches.at_ _ (getD_mem (d := Cc.zero) (show k < x.cs.length by omega))
     refine h_call f rfl rfl rfl rfl (IsCall.mk' (cap := []) rfl rfl rfl) (pl rfl) (freeIn_any _ x ⟨⟨nma, sza, pra, ora, sla, aca⟩, noa, nna, nca, soa, sna, sca, aoa, ana, aka⟩ ⟨bae, boe, bte⟩ (hx.below B0) hch.size hch.per hrg) ?_
     clear f A; rintro _ W18 ⟨⟨lo, ln, lc, r, rfl, hfr⟩, hb19⟩
     refine ⟨_, rfl, Below.next hS hb19, ?_⟩
     obtain ⟨rfl, l, hL, hcn, hlo2, hob⟩ : r = true ∧ ∃ l, Nums W18 lo ln l ∧ Chain x.words bte l ∧ (l.length : Int) = boe ∧ ∀ y ∈ l, objAt ⟨nma, sza, pra, ora, sla, aca⟩ ⟨bae, boe, bte⟩ y := by
      rcases hfr with h | ⟨_, _, hno⟩
      ·exact h
      ·exact absurd hso.2.2 hno
     intro A f
     replace B0 := Below.next B0 hb19; replace rb1 := row_next rb1 hb19; replace rb11 := row_next rb11 hb19
     refine h_do f rfl rfl rfl rfl (y_move rfl rfl) ?_; clear f A; intro A f
     refine h_do f rfl rfl rfl rfl (y_ext rfl rfl rfl) ?_; clear f A; intro A f
     refine h_do f rfl rfl rfl rfl (y_ext rfl rfl rfl) ?_; clear f A; intro A f
     refine h_do f rfl rfl rfl rfl (y_assign rfl rfl) ?_; clear f A; intro A f
     refine h_do f rfl rfl rfl rfl (y_assign rfl rfl) ?_; clear f A; intro A f
     refine h_nil ?_
     refine x_tn ?_
     refine wp_seq ?_
     refine wp_seq ?_
     refine sx_list ?_
     refine l_do f rfl rfl rfl (y_assign rfl rfl) ?_; clear f A; intro A f
     refine wpList_nil ?_
     refine x_tn ?_
     refine wp_block ?_
     have hLl := hL.len
     have hLr := hL.reach
     refine x_loop (fun n A W => ∃ j : Nat, n = ln - j ∧ j ≤ ln ∧ Fr A 78 [(1, .int .i64 a), (2, .pointer (some ⟨b1, 0, none⟩)), (7, .int .i64 (k : Nat)), (8, .int .i64 (p : Nat)), (10, .slice lo ln lc), (12, .int .i64 (j : Nat))] ∧ Below w.heap.size w W ∧ W.heap[b1]? = some (.cells #[.slice x.wo x.wn x.wc, .slice x.h.zo x.h.zn x.h.zc, .slice x.h.mo x.h.mn x.h.mc, .int .i64 x.h.cpus, .slice x.h.lo x.h.ln x.h.lc, .slice x.h.vo x.h.vn x.h.vc, .slice x.co x.cn x.cc] 30 (0, 0)) ∧ Nums W lo ln l ∧ ∀ i, i < j → l.getD i 0 ≠ a) (n0 := ln) (⟨0, rfl, Nat.zero_le _, f.sub ⟨rfl, rfl, rfl, rfl, rfl, rfl, trivial⟩, B0, rb1, hL, fun i hi => absurd hi (Nat.not_lt_zero i)⟩) ?_
     clear f A
     clear B0 hL rb1
     rintro n2 A W20 ⟨j, hn2, hj, f, B0, rb1, hL, hno⟩
     have BW := Below.refl W20.heap.size W20
     refine wp_seq ?_
     refine wp_seq ?_
     refine sx_list ?_
     refine l_do f rfl rfl rfl (y_move rfl rfl) ?_; clear f A; intro A f
     refine l_do f rfl rfl rfl (y_move rfl rfl) ?_; clear f A; intro A f
     refine l_do f rfl rfl rfl (y_len rfl rfl (sl rfl)) ?_; clear f A; intro A f
     refine l_if _ f rfl rfl rfl (y_lss rfl rfl rfl) ?_ ?_
     ·clear f A; intro c21 A f
      refine wpList_nil ?_
      refine x_tn ?_
      refine x_condT f rfl ?_
      refine wp_skip ?_
      refine x_tn ?_
      refine wp_seq ?_
      refine wp_block ?_
      refine wp_seq ?_
      refine sx_list ?_
      refine l_do f rfl rfl rfl (y_move rfl rfl) ?_; clear f A; intro A f
      refine l_do f rfl rfl rfl (y_move rfl rfl) ?_; clear f A; intro A f
      obtain ⟨gv, ov, vv, hav, c0v, hXv⟩ := hL.at_.at (j) (by have := hL.len; omega)
      replace c0v := St.of c0v
      rw [show ov + j = ov + j * 1 by omega] at c0v
      refine l_do f rfl rfl rfl (y_index rfl rfl (by first | rfl | assumption) rfl (es rfl) (by omega)) ?_; clear f A; intro A f
      refine l_do f rfl rfl rfl (y_load1 rfl rfl (ag rfl) (by first | assumption | exact St.q c0v BW)) ?_; clear f A; intro A f
      refine l_do f rfl rfl rfl (y_move rfl rfl) ?_; clear f A; intro A f
      refine l_if _ f rfl rfl rfl (y_eql rfl rfl rfl) ?_ ?_
      ·clear f A; intro c22 A f
       refine wpList_nil ?_
       refine x_tn ?_
       refine x_condT f rfl ?_
       refine wp_seq ?_
       refine sx_list ?_
       refine l_do f rfl rfl rfl (y_assign rfl rfl) ?_; clear f A; intro A f
       refine l_do f rfl rfl rfl (y_assign rfl rfl) ?_; clear f A; intro A f
       refine l_do f rfl rfl rfl (y_assign rfl rfl) ?_; clear f A; intro A f
       refine wpList_nil ?_
       refine x_tn ?_
       refine wp_ret ?_
       refine x_br ?_
       refine x_tr ?_
       refine x_tr ?_
       refine x_br ?_
       refine x_tr ?_
       refine x_br ?_
       refine x_tr ?_
       refine x_tr ?_
       refine x_br ?_
       refine x_br ?_
       refine x_tr ?_
       refine x_tr ?_
       refine x_br ?_
       refine x_tr ?_
       refine x_ret3 f rfl rfl rfl rfl ?_
       exact ⟨.inl ⟨hm, .inr ⟨rfl, .inr ⟨k, p, by omega, by rw [hXa.out]; show p < sla.length; omega, by rw [hXa.out, hge]; exact c14, by rw [hXa.out, hge]; exact (freeAt_iff hcn hlo2).2 (by rw [← c22, ← hXv.out]; exact getD_mem (d := (0 : Int)) (by omega))⟩⟩⟩, B0⟩
      ·clear f A; intro c22 A f
       refine wpList_nil ?_
       refine x_tn ?_
       refine x_condF f rfl ?_
       refine wp_skip ?_
       refine x_bn ?_
       refine x_tn ?_
       refine sx_list ?_
       refine l_do f rfl rfl rfl (y_move rfl rfl) ?_; clear f A; intro A f
       refine l_do f rfl rfl rfl (y_add rfl rfl rfl rfl (by omega)) ?_; clear f A; intro A f
       refine l_do f rfl rfl rfl (y_assign rfl rfl) ?_; clear f A; intro A f
       refine wpList_nil ?_
       refine x_tn ?_
       exact ⟨ln - (j + 1), by omega, j + 1, rfl, by omega, f.sub ⟨rfl, rfl, rfl, rfl, rfl, rfl, trivial⟩, B0, rb1, hL, fun i hi => by by_cases e : i = j; (subst e; rw [hXv.out]; exact c22); exact hno i (by omega)⟩
     ·clear f A; intro c21 A f
      refine wpList_nil ?_
      refine x_tn ?_
      refine x_condF f rfl ?_
      refine wp_exit ?_
      refine x_te ?_
      refine x_te ?_
      refine x_bh ?_
      refine x_tn ?_
      refine wp_seq ?_
      refine sx_list ?_
      refine l_do f rfl rfl rfl (y_move rfl rfl) ?_; clear f A; intro A f
      refine l_do f rfl rfl rfl (y_move rfl rfl) ?_; clear f A; intro A f
      refine l_do f rfl rfl rfl (y_assign rfl rfl) ?_; clear f A; intro A f
      refine l_do f rfl rfl rfl (y_assign rfl rfl) ?_; clear f A; intro A f
      refine l_do f rfl rfl rfl (y_assign rfl rfl) ?_; clear f A; intro A f
      refine wpList_nil ?_
      refine x_tn ?_
      refine wp_ret ?_
      refine x_br ?_
      refine x_tr ?_
      refine x_tr ?_
      refine x_br ?_
      refine x_br ?_
      refine x_tr ?_
      refine x_tr ?_
      refine x_br ?_
      refine x_tr ?_
      refine x_ret3 f rfl rfl rfl rfl ?_
      exact ⟨.inl ⟨hm, .inl ⟨k, p, by omega, by rw [hXa.out]; show p < sla.length; omega, rfl, by rw [hXa.out, hge]; exact c14, by
       rw [hXa.out, hge]
       intro h
       obtain ⟨i, hi, he⟩ := List.getElem_of_mem ((freeAt_iff hcn hlo2).1 h)
       exact hno i (by omega) (by rw [List.getD_eq_getElem?_getD, List.getElem?_eq_getElem hi]; exact he)⟩⟩, B0⟩
    ·clear f A; intro c14 A f
     refine q_do f rfl rfl rfl (y_not rfl rfl) ?_; clear f A; intro A f
     refine wpQuiet_nil ?_; intro W24 hb23; replace B0 := Below.next B0 hb23; replace rb1 := row_next rb1 hb23; replace rb11 := row_next rb11 hb23
     refine x_tn ?_
     refine x_condT f rfl ?_
     refine wp_exit ?_
     refine x_te ?_
     refine x_bh ?_
     refine x_tn ?_
     refine sx_list ?_
     refine l_do f rfl rfl rfl (y_move rfl rfl) ?_; clear f A; intro A f
     refine l_do f rfl rfl rfl (y_add rfl rfl rfl rfl (by omega)) ?_; clear f A; intro A f
     refine l_do f rfl rfl rfl (y_assign rfl rfl) ?_; clear f A; intro A f
     refine wpList_nil ?_
     refine x_tn ?_
     exact ⟨sna - (p + 1), by omega, p + 1, rfl, by omega, f.sub ⟨rfl, rfl, rfl, rfl, trivial⟩, B0, rb1, fun i hi => by by_cases e : i = p; (subst e; rw [hXe.out]; exact c14); exact hdp i (by omega)⟩
   ·clear f A; intro c10 A f
    refine wpList_nil ?_
    refine x_tn ?_
    refine x_condF f rfl ?_
    refine wp_exit ?_
    refine x_te ?_
    refine x_te ?_
    refine x_bh ?_
    refine x_bn ?_
    refine x_tn ?_
    refine sx_list ?_
    refine l_do f rfl rfl rfl (y_move rfl rfl) ?_; clear f A; intro A f
    refine l_do f rfl rfl rfl (y_add rfl rfl rfl rfl (by omega)) ?_; clear f A; intro A f
    refine l_do f rfl rfl rfl (y_assign rfl rfl) ?_; clear f A; intro A f
    refine wpList_nil ?_
    refine x_tn ?_
    exact ⟨x.cn - (k + 1), by omega, k + 1, rfl, by omega, f.sub ⟨rfl, rfl, rfl, trivial⟩, B0, rb1, fun i hi => by by_cases e : i = k; (subst e; rw [hXa.out]; exact fun j hj => hdp j (by have h9 : j < sla.length := hj; omega)); exact hd i (by omega)⟩
  ·clear f A; intro c8 A f
   refine wpList_nil ?_
   refine x_tn ?_
   refine x_condF f rfl ?_
   refine wp_exit ?_
   refine x_te ?_
   refine x_te ?_
   refine x_bh ?_
   refine x_tn ?_
   refine wp_seq ?_
   refine sx_list ?_
   refine l_do f rfl rfl rfl (y_assign rfl rfl) ?_; clear f A; intro A f
   refine l_do f rfl rfl rfl (y_assign rfl rfl) ?_; clear f A; intro A f
   refine l_do f rfl rfl rfl (y_assign rfl rfl) ?_; clear f A; intro A f
   refine wpList_nil ?_
   refine x_tn ?_
   refine wp_ret ?_
   refine x_ret3 f rfl rfl rfl rfl ?_
   have hke : k = x.cn := by omega
   subst hke
   exact ⟨.inl ⟨hm, .inr ⟨rfl, .inl fun i hi => hd i (by omega)⟩⟩, B0⟩
 ·clear f A; intro c4 W6 hb5 A f
  replace B0 := Below.next B0 hb5; replace rb1 := row_next rb1 hb5
  refine l_do f rfl rfl rfl (y_not rfl rfl) ?_; clear f A; intro A f
  refine wpList_nil ?_
  refine x_tn ?_
  refine x_condT f rfl ?_
  refine wp_seq ?_
  refine sx_list ?_
  refine l_do f rfl rfl rfl (y_assign rfl rfl) ?_; clear f A; intro A f
  refine l_do f rfl rfl rfl (y_assign rfl rfl) ?_; clear f A; intro A f
  refine l_do f rfl rfl rfl (y_assign rfl rfl) ?_; clear f A; intro A f
  refine wpList_nil ?_
  refine x_tn ?_
  refine wp_ret ?_
  refine x_tr ?_
  refine x_ret3 f rfl rfl rfl rfl ?_
  exact ⟨.inr ⟨c4, rfl⟩, B0⟩
theorem apt_two {P l : List Bk} (h : Apt P l) {i j : Nat} (hi : i < j) (hj : j < l.length) : ¬ ((l.getD i .zero).a < (l.getD j .zero).a + pw (l.getD j .zero).o ∧ (l.getD j .zero).a < (l.getD i .zero).a + pw (l.getD i .zero).o) := by
 intro hc
 refine h j hj ((ovlP_mem _ _ _).2 ⟨l.getD i .zero, List.mem_append.2 (.inr ?_), hc⟩)
 rw [List.mem_take_iff_getElem]
 exact ⟨i, by omega, by rw [List.getD_eq_getElem?_getD, List.getElem?_eq_getElem (show i < l.length by omega)]; rfl⟩
theorem live_far {H : Hp} (h : HMay H) {u v : Bk} (hu : u ∈ H.live) (hv : v ∈ H.live) (h1 : u.a < v.a + pw v.o) (h2 : v.a < u.a + pw u.o) : u.a = v.a := by
 have ha := ((apt_append [] _ _).1 h.apart).2
 have ha := ((apt_append _ _ _).1 ha).2
 obtain ⟨i, hi, rfl⟩ := List.getElem_of_mem hu
 obtain ⟨j, hj, rfl⟩ := List.getElem_of_mem hv
 have e1 : H.live.getD i .zero = H.live[i] := by rw [List.getD_eq_getElem?_getD, List.getElem?_eq_getElem hi]; rfl
 have e2 : H.live.getD j .zero = H.live[j] := by rw [List.getD_eq_getElem?_getD, List.getElem?_eq_getElem hj]; rfl
 rcases Nat.lt_trichotomy i j with h3 | h3 | h3
 ·have := apt_two ha h3 hj
  rw [e1, e2] at this
  exact absurd ⟨h1, h2⟩ this
 ·subst h3; rfl
 ·have := apt_two ha h3 hi
  rw [e1, e2] at this
  exact absurd ⟨h2, h1⟩ this
theorem lay_fits {s : Int} (h : 1 ≤ s ∧ s ≤ 64) : s * layN s ≤ 16 * pw (layO s) := by
 unfold layN layO
 have key : ∀ K : Int, s * (K / s) ≤ K := fun K => Int.mul_ediv_self_le (by omega)
 split
 ·have := key 16; rw [pw_0]; omega
 ·split
  ·have := key 32; rw [pw_1]; omega
  ·have := key 64; rw [pw_2]; omega
theorem in_take {y : List Int} {r s : Nat} (hr : r < s) (hs : s < y.length) : y.getD r 0 ∈ y.take s := by
 rw [List.mem_take_iff_getElem]
 exact ⟨r, by omega, by rw [List.getD_eq_getElem?_getD, List.getElem?_eq_getElem (show r < y.length by omega)]; rfl⟩
theorem one_slab {x : Sy} (hm : SMay x.sp) {a : Int} {i p j q : Nat} (hi : i < x.cs.length) (hp : p < (x.cs.getD i .zero).c.slabs.length) (hj : j < x.cs.length) (hq : q < (x.cs.getD j .zero).c.slabs.length)
    (h1 : objAt (x.cs.getD i .zero).c ((x.cs.getD i .zero).c.slabs.getD p .zero) a) (h2 : objAt (x.cs.getD j .zero).c ((x.cs.getD j .zero).c.slabs.getD q .zero) a) : i = j ∧ p = q := by
 have hmem : ∀ k, k < x.cs.length → ChMay x.words x.h.hp (x.cs.getD k .zero).c := fun k hk => hm.each _ (List.mem_map_of_mem (getD_mem (d := Cc.zero) hk))
 have c1 := hmem i hi
 have c2 := hmem j hj
 obtain ⟨u, hu, ua, uo⟩ := (c1.slabs p hp).2.1
 obtain ⟨v, hv, va, vo⟩ := (c2.slabs q hq).2.1
 have f1 := lay_fits c1.size
 have f2 := lay_fits c2.size
 rw [← c1.per, ← c1.order, ← uo] at f1
 rw [← c2.per, ← c2.order, ← vo] at f2
 obtain ⟨a1, a2, -⟩ := h1
 obtain ⟨b1, b2, -⟩ := h2
 have he := live_far hm.heap hu hv (by omega) (by omega)
 rw [ua, va] at he
 have hno := hm.unlike.at_
 have g1 : (pgs (x.cs.getD i .zero).c).getD p 0 = ((x.cs.getD i .zero).c.slabs.getD p .zero).a := pages_at hp rfl
 have g2 : (pgs (x.cs.getD j .zero).c).getD q 0 = ((x.cs.getD j .zero).c.slabs.getD q .zero).a := pages_at hq rfl
 have m1 : ((x.cs.getD i .zero).c.slabs.getD p .zero).a ∈ pgs (x.cs.getD i .zero).c := List.mem_map_of_mem (getD_mem (d := Bk.zero) hp)
 have m2 : ((x.cs.getD j .zero).c.slabs.getD q .zero).a ∈ pgs (x.cs.getD j .zero).c := List.mem_map_of_mem (getD_mem (d := Bk.zero) hq)
 have len1 : p < (pgs (x.cs.getD i .zero).c).length := by rw [List.length_map]; exact hp
 have len2 : q < (pgs (x.cs.getD j .zero).c).length := by rw [List.length_map]; exact hq
 rcases Nat.lt_trichotomy i j with h3 | h3 | h3
 ·exact (upTo_twice pgs x.cs 0 hj rfl g2 len2 hno (List.mem_append.2 (.inl ((upTo_mem (by omega)).2 ⟨i, h3, by rw [← he]; exact m1⟩)))).elim
 ·subst h3
  refine ⟨rfl, ?_⟩
  rcases Nat.lt_trichotomy p q with h4 | h4 | h4
  ·exact (upTo_twice pgs x.cs 0 hj rfl g2 len2 hno (List.mem_append.2 (.inr (by rw [← he, ← g1]; exact in_take h4 len2)))).elim
  ·exact h4
  ·exact (upTo_twice pgs x.cs 0 hi rfl g1 len1 hno (List.mem_append.2 (.inr (by rw [he, ← g2]; exact in_take h4 len1)))).elim
 ·exact (upTo_twice pgs x.cs 0 hi rfl g1 len1 hno (List.mem_append.2 (.inl ((upTo_mem (by omega)).2 ⟨j, h3, by rw [he]; exact m2⟩)))).elim
theorem slabFinds_walk (x : Sy) (a : Int) (w : World) (h : IsSys w x) (wa : (Lit.int .i64 a).wf = true) :
    Calls Try.prog 5 #[.agg #[.slice x.wo x.wn x.wc, .slice x.h.zo x.h.zn x.h.zc, .slice x.h.mo x.h.mn x.h.mc, .int .i64 x.h.cpus, .slice x.h.lo x.h.ln x.h.lc, .slice x.h.vo x.h.vn x.h.vc, .slice x.co x.cn x.cc], .int .i64 a] w fun e w' => e = .returned (.bool true) ∧ Below w.heap.size w w' := by
 have hx := h.at_
 obtain ⟨I, P, E, HF, HO⟩ : ∃ I P E : Int, (∀ W, x.At W → Calls Try.prog 10 #[.agg #[.slice x.wo x.wn x.wc, .slice x.h.zo x.h.zn x.h.zc, .slice x.h.mo x.h.mn x.h.mc, .int .i64 x.h.cpus, .slice x.h.lo x.h.ln x.h.lc, .slice x.h.vo x.h.vn x.h.vc, .slice x.co x.cn x.cc], .int .i64 a] W fun e w' => e = .returned (.tuple #[.int .i64 I, .int .i64 P, .int .i64 E]) ∧ Below W.heap.size W w') ∧ (∀ W, x.At W → Calls Try.prog 11 #[.agg #[.slice x.wo x.wn x.wc, .slice x.h.zo x.h.zn x.h.zc, .slice x.h.mo x.h.mn x.h.mc, .int .i64 x.h.cpus, .slice x.h.lo x.h.ln x.h.lc, .slice x.h.vo x.h.vn x.h.vc, .slice x.co x.cn x.cc], .int .i64 a] W fun e w' => e = .returned (.tuple #[.int .i64 I, .int .i64 P, .int .i64 E]) ∧ Below W.heap.size W w') := by
  by_cases hm : SMay x.sp
  ·by_cases hit : ∃ i p : Nat, i < x.cs.length ∧ p < (x.cs.getD i .zero).c.slabs.length ∧ objAt (x.cs.getD i .zero).c ((x.cs.getD i .zero).c.slabs.getD p .zero) a ∧ ¬ FreeAt x.words ((x.cs.getD i .zero).c.slabs.getD p .zero) a
   ·obtain ⟨i, p, hi, hp, ho, hn⟩ := hit
    refine ⟨(i : Nat), (p : Nat), 0, fun W hW => ?_, fun W hW => ?_⟩
    ·refine (slFind_any W x a hW h.cf wa).mono ?_
     rintro e w' ⟨h1, hb⟩
     refine ⟨?_, hb⟩
     rcases h1 with ⟨_, ⟨j, q, hj, hq, rfl, ho2, _⟩ | ⟨_, hno⟩⟩ | ⟨hn2, _⟩
     ·obtain ⟨rfl, rfl⟩ := one_slab hm hi hp hj hq ho ho2
      rfl
     ·exact absurd ⟨ho, hn⟩ (hno i hi p hp)
     ·exact absurd hm hn2
    ·refine (foundOf_any W x a hW h.cf).mono ?_
     rintro e w' ⟨h1, hb⟩
     refine ⟨?_, hb⟩
     rcases h1 with ⟨_, ⟨j, q, hj, hq, rfl, ho2, _⟩ | ⟨_, hno | ⟨j, q, hj, hq, ho2, hf2⟩⟩⟩ | ⟨hn2, _⟩
     ·obtain ⟨rfl, rfl⟩ := one_slab hm hi hp hj hq ho ho2
      rfl
     ·exact absurd ho (hno i hi p hp)
     ·obtain ⟨rfl, rfl⟩ := one_slab hm hi hp hj hq ho ho2
      exact absurd hf2 hn
     ·exact absurd hm hn2
   ·refine ⟨0, 0, 4, fun W hW => ?_, fun W hW => ?_⟩
    ·refine (slFind_any W x a hW h.cf wa).mono ?_
     rintro e w' ⟨h1, hb⟩
     refine ⟨?_, hb⟩
     rcases h1 with ⟨_, ⟨j, q, hj, hq, _, ho2, hn2⟩ | ⟨rfl, _⟩⟩ | ⟨hn2, _⟩
     ·exact absurd ⟨j, q, hj, hq, ho2, hn2⟩ hit
     ·rfl
     ·exact absurd hm hn2
    ·refine (foundOf_any W x a hW h.cf).mono ?_
     rintro e w' ⟨h1, hb⟩
     refine ⟨?_, hb⟩
     rcases h1 with ⟨_, ⟨j, q, hj, hq, _, ho2, hn2⟩ | ⟨rfl, _⟩⟩ | ⟨hn2, _⟩
     ·exact absurd ⟨j, q, hj, hq, ho2, hn2⟩ hit
     ·rfl
     ·exact absurd hm hn2
  ·refine ⟨0, 0, 8, fun W hW => ?_, fun W hW => ?_⟩
   ·refine (slFind_any W x a hW h.cf wa).mono ?_
    rintro e w' ⟨h1, hb⟩
    refine ⟨?_, hb⟩
    rcases h1 with ⟨h2, _⟩ | ⟨_, rfl⟩
    ·exact absurd h2 hm
    ·rfl
   ·refine (foundOf_any W x a hW h.cf).mono ?_
    rintro e w' ⟨h1, hb⟩
    refine ⟨?_, hb⟩
    rcases h1 with ⟨h2, _⟩ | ⟨_, rfl⟩
    ·exact absurd h2 hm
    ·rfl
 clear wa
 have B0 := Below.refl w.heap.size w
 refine sx_enter (args := [_, _]) 38 Try.func5 rfl rfl rfl ?_
 intro A f
 refine wp_seq ?_
 refine sx_list ?_
 refine l_box f rfl rfl rfl rfl rfl ?_; clear f A; intro b1 W2 eb1 hb3 rb1 A f; dsimp only [Value.cells] at rb1
 have z_B0_b1 := B0.size; rw [eb1] at z_B0_b1
 replace B0 := Below.next B0 hb3
 refine l_do f rfl rfl rfl (y_assign rfl rfl) ?_; clear f A; intro A f
 refine wpList_nil ?_
 refine x_tn ?_
 refine wp_seq ?_
 refine sx_list ?_
 refine l_do f rfl rfl rfl (y_loadN (vs := [_, _, _, _, _, _, _]) rfl rfl (ag rfl) rfl (rowls (rowq rb1) _ _ ⟨rfl, rfl, rfl, rfl, rfl, rfl, rfl, trivial⟩)) ?_; clear f A; intro A f
 refine l_do f rfl rfl rfl (y_move rfl rfl) ?_; clear f A; intro A f
 refine l_call f rfl rfl rfl (IsCall.mk' (cap := []) rfl rfl rfl) (pl rfl) (HF _ (hx.below B0)) ?_; clear f A; rintro _ W5 ⟨rfl, hb4⟩; refine ⟨_, rfl, ?_⟩; intro A f; replace B0 := Below.next B0 hb4; replace rb1 := row_next rb1 hb4
 refine l_do f rfl rfl rfl (y_move rfl rfl) ?_; clear f A; intro A f
 refine l_do f rfl rfl rfl (y_ext rfl rfl rfl) ?_; clear f A; intro A f
 refine l_do f rfl rfl rfl (y_ext rfl rfl rfl) ?_; clear f A; intro A f
 refine l_do f rfl rfl rfl (y_ext rfl rfl rfl) ?_; clear f A; intro A f
 refine l_do f rfl rfl rfl (y_assign rfl rfl) ?_; clear f A; intro A f
 refine l_do f rfl rfl rfl (y_assign rfl rfl) ?_; clear f A; intro A f
 refine l_do f rfl rfl rfl (y_assign rfl rfl) ?_; clear f A; intro A f
 refine wpList_nil ?_
 refine x_tn ?_
 refine wp_seq ?_
 refine sx_list ?_
 refine l_do f rfl rfl rfl (y_loadN (vs := [_, _, _, _, _, _, _]) rfl rfl (ag rfl) rfl (rowls (rowq rb1) _ _ ⟨rfl, rfl, rfl, rfl, rfl, rfl, rfl, trivial⟩)) ?_; clear f A; intro A f
 refine l_do f rfl rfl rfl (y_move rfl rfl) ?_; clear f A; intro A f
 refine l_call f rfl rfl rfl (IsCall.mk' (cap := []) rfl rfl rfl) (pl rfl) (HO _ (hx.below B0)) ?_; clear f A; rintro _ W7 ⟨rfl, hb6⟩; refine ⟨_, rfl, ?_⟩; intro A f; replace B0 := Below.next B0 hb6; replace rb1 := row_next rb1 hb6
 refine l_do f rfl rfl rfl (y_move rfl rfl) ?_; clear f A; intro A f
 refine l_do f rfl rfl rfl (y_ext rfl rfl rfl) ?_; clear f A; intro A f
 refine l_do f rfl rfl rfl (y_ext rfl rfl rfl) ?_; clear f A; intro A f
 refine l_do f rfl rfl rfl (y_ext rfl rfl rfl) ?_; clear f A; intro A f
 refine l_do f rfl rfl rfl (y_assign rfl rfl) ?_; clear f A; intro A f
 refine l_do f rfl rfl rfl (y_assign rfl rfl) ?_; clear f A; intro A f
 refine l_do f rfl rfl rfl (y_assign rfl rfl) ?_; clear f A; intro A f
 refine wpList_nil ?_
 refine x_tn ?_
 refine wp_seq ?_
 refine sx_list ?_
 refine l_do f rfl rfl rfl (y_move rfl rfl) ?_; clear f A; intro A f
 refine l_do f rfl rfl rfl (y_move rfl rfl) ?_; clear f A; intro A f
 refine l_if _ f rfl rfl rfl (y_eql rfl rfl rfl) ?_ ?_
 ·clear f A; intro c8 A f
  refine l_do f rfl rfl rfl (y_move rfl rfl) ?_; clear f A; intro A f
  refine l_do f rfl rfl rfl (y_move rfl rfl) ?_; clear f A; intro A f
  refine l_do f rfl rfl rfl (y_move rfl rfl) ?_; clear f A; intro A f
  refine l_if _ f rfl rfl rfl (y_eql rfl rfl rfl) ?_ ?_
  ·clear f A; intro c9 A f
   refine l_do f rfl rfl rfl (y_pick rfl rfl rfl) ?_; clear f A; intro A f
   refine l_do f rfl rfl rfl (y_move rfl rfl) ?_; clear f A; intro A f
   refine l_do f rfl rfl rfl (y_move rfl rfl) ?_; clear f A; intro A f
   refine l_do f rfl rfl rfl (y_move rfl rfl) ?_; clear f A; intro A f
   refine l_if _ f rfl rfl rfl (y_eql rfl rfl rfl) ?_ ?_
   ·clear f A; intro c10 A f
    refine l_do f rfl rfl rfl (y_pick rfl rfl rfl) ?_; clear f A; intro A f
    refine l_do f rfl rfl rfl (y_assign rfl rfl) ?_; clear f A; intro A f
    refine wpList_nil ?_
    refine x_tn ?_
    refine wp_ret ?_
    refine x_ret1 f rfl rfl ?_
    exact ⟨rfl, B0⟩
   ·intro c10; exfalso; omega
  ·intro c9; exfalso; omega
 ·intro c8; exfalso; omega
end Go.Proofs.Ytnijjpakpphhhaa
