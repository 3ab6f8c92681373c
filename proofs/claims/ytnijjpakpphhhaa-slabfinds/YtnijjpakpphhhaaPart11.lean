/-
  OWN TEXTS.
-/
import Derived.Test.YtnijjpakpphhhaaPart10
set_option maxRecDepth 10000
set_option maxHeartbeats 4000000
namespace Go.Proofs.Ytnijjpakpphhhaa
open Go Go.RowKit Go.Proofs.Ytnijjpakpphhhaa.Kit
theorem sysMay_any (w : World) (x : Sy) (hx : x.At w) (hf : ∀ c ∈ x.cs, c.Fits) :
    Calls Try.prog 7 #[.agg #[.slice x.wo x.wn x.wc, .slice x.h.zo x.h.zn x.h.zc, .slice x.h.mo x.h.mn x.h.mc, .int .i64 x.h.cpus, .slice x.h.lo x.h.ln x.h.lc, .slice x.h.vo x.h.vn x.h.vc, .slice x.co x.cn x.cc]] w fun e w' => RetB e (SMay x.sp) ∧ Below w.heap.size w w' := by
 have hcl := hx.caches.len
 have hcr := hx.caches.reach
 have B0 := Below.refl w.heap.size w
 refine sx_enter (args := [_]) 147 Try.func7 rfl rfl rfl ?_
 intro A f
 refine wp_seq ?_
 refine sx_list ?_
 refine l_box f rfl rfl rfl rfl rfl ?_; clear f A; intro b1 W2 eb1 hb3 rb1 A f; dsimp only [Value.cells] at rb1
 have z_B0_b1 := B0.size; rw [eb1] at z_B0_b1
 replace B0 := Below.next B0 hb3
 refine l_do f rfl rfl rfl (y_assign rfl rfl) ?_; clear f A; intro A f
 refine wpList_nil ?_
 refine x_tn ?_
 refine wp_seq ?_
 refine wp_seq ?_
 refine sx_list ?_
 refine l_do f rfl rfl rfl (y_field rfl rfl (fo rfl)) ?_; clear f A; intro A f
 refine l_do f rfl rfl rfl (y_load1 rfl rfl (ag rfl) (rowl (rowq rb1) rfl)) ?_; clear f A; intro A f
 refine l_do f rfl rfl rfl (y_len rfl rfl (sl rfl)) ?_; clear f A; intro A f
 refine l_if _ f rfl rfl rfl (y_neq rfl rfl rfl) ?_ ?_
 ·clear f A; intro c4 A f
  refine l_do f rfl rfl rfl (y_move rfl rfl) ?_; clear f A; intro A f
  refine l_no f rfl rfl rfl ?_; clear f A; intro A f
  refine l_no f rfl rfl rfl ?_; clear f A; intro A f
  refine l_no f rfl rfl rfl ?_; clear f A; intro A f
  refine l_no f rfl rfl rfl ?_; clear f A; intro A f
  refine l_do f rfl rfl rfl (y_pick rfl rfl rfl) ?_; clear f A; intro A f
  refine l_do f rfl rfl rfl (y_move rfl rfl) ?_; clear f A; intro A f
  refine l_no f rfl rfl rfl ?_; clear f A; intro A f
  refine l_no f rfl rfl rfl ?_; clear f A; intro A f
  refine l_no f rfl rfl rfl ?_; clear f A; intro A f
  refine l_no f rfl rfl rfl ?_; clear f A; intro A f
  refine l_do f rfl rfl rfl (y_pick rfl rfl rfl) ?_; clear f A; intro A f
  refine wpList_nil ?_
  refine x_tn ?_
  refine x_condT f rfl ?_
  refine wp_seq ?_
  refine sx_list ?_
  refine l_do f rfl rfl rfl (y_assign rfl rfl) ?_; clear f A; intro A f
  refine wpList_nil ?_
  refine x_tn ?_
  refine wp_ret ?_
  refine x_tr ?_
  refine x_ret1 f rfl rfl ?_
  exact ⟨retB_false (fun h => by have h1 := h.words; have h2 : x.words.length = x.wn := hx.words.len; have h3 : x.sp.words.length = x.words.length := rfl; omega), B0⟩
 ·clear f A; intro c4 A f
  refine l_do f rfl rfl rfl (y_move rfl rfl) ?_; clear f A; intro A f
  refine l_do f rfl rfl rfl (y_field rfl rfl (fo rfl)) ?_; clear f A; intro A f
  refine l_do f rfl rfl rfl (y_loadN (vs := [_, _, _, _, _]) rfl rfl (ag rfl) rfl (rowls (rowq rb1) _ _ ⟨rfl, rfl, rfl, rfl, rfl, trivial⟩)) ?_; clear f A; intro A f
  have inst := Classical.propDecidable (HMay x.h.hp)
  refine l_callif (HMay x.h.hp) f rfl rfl rfl (IsCall.mk' (cap := []) rfl rfl rfl) (pl rfl) (c_iff (heapMay_any _ x.h (hx.heap.below B0))) ?_ ?_
  ·clear f A; intro c5 W7 hb6 A f
   replace B0 := Below.next B0 hb6; replace rb1 := row_next rb1 hb6
   have hm := c5
   refine l_do f rfl rfl rfl (y_not rfl rfl) ?_; clear f A; intro A f
   refine l_do f rfl rfl rfl (y_pick rfl rfl rfl) ?_; clear f A; intro A f
   refine l_do f rfl rfl rfl (y_move rfl rfl) ?_; clear f A; intro A f
   refine l_do f rfl rfl rfl (y_field rfl rfl (fo rfl)) ?_; clear f A; intro A f
   refine l_do f rfl rfl rfl (y_load1 rfl rfl (ag rfl) (rowl (rowq rb1) rfl)) ?_; clear f A; intro A f
   refine l_do f rfl rfl rfl (y_len rfl rfl (sl rfl)) ?_; clear f A; intro A f
   refine l_if _ f rfl rfl rfl (y_gtr rfl rfl rfl) ?_ ?_
   ·clear f A; intro c8 A f
    refine l_do f rfl rfl rfl (y_pick rfl rfl rfl) ?_; clear f A; intro A f
    refine wpList_nil ?_
    refine x_tn ?_
    refine x_condT f rfl ?_
    refine wp_seq ?_
    refine sx_list ?_
    refine l_do f rfl rfl rfl (y_assign rfl rfl) ?_; clear f A; intro A f
    refine wpList_nil ?_
    refine x_tn ?_
    refine wp_ret ?_
    refine x_tr ?_
    refine x_ret1 f rfl rfl ?_
    exact ⟨retB_false (fun h => by have h1 := h.few; have h3 : x.sp.caches.length = x.cs.length := List.length_map _; omega), B0⟩
   ·clear f A; intro c8 A f
    refine l_do f rfl rfl rfl (y_pick rfl rfl rfl) ?_; clear f A; intro A f
    refine wpList_nil ?_
    refine x_tn ?_
    refine x_condF f rfl ?_
    refine wp_skip ?_
    refine x_tn ?_
    refine wp_seq ?_
    refine sx_list ?_
    refine l_do f rfl rfl rfl (y_assign rfl rfl) ?_; clear f A; intro A f
    refine wpList_nil ?_
    refine x_tn ?_
    refine wp_seq ?_
    refine sx_list ?_
    refine l_do f rfl rfl rfl (y_assign rfl rfl) ?_; clear f A; intro A f
    refine wpList_nil ?_
    refine x_tn ?_
    refine wp_seq ?_
    refine wp_seq ?_
    refine sx_list ?_
    refine l_do f rfl rfl rfl (y_assign rfl rfl) ?_; clear f A; intro A f
    refine wpList_nil ?_
    refine x_tn ?_
    refine wp_block ?_
    have lb := row_lt rb1
    obtain ⟨sb, hsb⟩ : ∃ sb, sb = b1 + 1 := ⟨_, rfl⟩
    have hsw : sb ≤ W7.heap.size := by omega
    refine x_loop (fun n A W => ∃ (k nN nP : Nat) (no so : Option Addr) (nc sc : Nat), n = x.cn - k ∧ k ≤ x.cn ∧ Fr A 147 [(1, .pointer (some ⟨b1, 0, none⟩)), (3, .slice no nN nc), (4, .slice so nP sc), (5, .int .i64 (k : Nat))] ∧ Below w.heap.size w W ∧ W.heap[b1]? = some (.cells #[.slice x.wo x.wn x.wc, .slice x.h.zo x.h.zn x.h.zc, .slice x.h.mo x.h.mn x.h.mc, .int .i64 x.h.cpus, .slice x.h.lo x.h.ln x.h.lc, .slice x.h.vo x.h.vn x.h.vc, .slice x.co x.cn x.cc] 30 (0, 0)) ∧ W.ownsRow sb 9 1 (.slice no nN nc) nN (svals (upTo Ch.names x.cs k)) ∧ W.ownsRow sb 3 1 (.slice so nP sc) nP (vals (upTo pgs x.cs k)) ∧ Dis no so ∧ sb ≤ W.heap.size ∧ (∀ i, i < k → ChMay x.words x.h.hp (x.cs.getD i .zero).c) ∧ (upTo szs x.cs k).Nodup ∧ NTo x.cs k ∧ (upTo Ch.names x.cs k).Nodup ∧ (upTo pgs x.cs k).Nodup) (n0 := x.cn) (⟨0, 0, 0, none, none, 0, 0, rfl, Nat.zero_le _, f.sub ⟨rfl, rfl, rfl, rfl, trivial⟩, B0, rb1, by rw [upTo_zero]; exact World.ownsRow_nil _ _ _ _, by rw [upTo_zero]; exact World.ownsRow_nil _ _ _ _, (fun q hq => by cases hq), hsw, fun i hi => absurd hi (Nat.not_lt_zero i), by rw [upTo_zero]; exact List.nodup_nil, NTo.zero _, by rw [upTo_zero]; exact List.nodup_nil, by rw [upTo_zero]; exact List.nodup_nil⟩) ?_
    clear f A
    clear B0 rb1 hsw lb
    rintro n A W9 ⟨k, nN, nP, no, so, nc, sc, hn, hk, f, B0, rb1, ownN, ownP, hds, hsw, hch, hns, hnt, hnd, hnp⟩
    have lb := row_lt rb1
    refine wp_seq ?_
    refine wp_seq ?_
    refine sx_list ?_
    refine l_do f rfl rfl rfl (y_move rfl rfl) ?_; clear f A; intro A f
    refine l_do f rfl rfl rfl (y_field rfl rfl (fo rfl)) ?_; clear f A; intro A f
    refine l_do f rfl rfl rfl (y_load1 rfl rfl (ag rfl) (rowl (rowq rb1) rfl)) ?_; clear f A; intro A f
    skip
    refine l_do f rfl rfl rfl (y_len rfl rfl (sl rfl)) ?_; clear f A; intro A f
    refine l_if _ f rfl rfl rfl (y_lss rfl rfl rfl) ?_ ?_
    ·clear f A; intro c10 A f
     refine wpList_nil ?_
     refine x_tn ?_
     refine x_condT f rfl ?_
     refine wp_skip ?_
     refine x_tn ?_
     refine wp_seq ?_
     refine wp_block ?_
     refine wp_seq ?_
     refine sx_list ?_
     refine l_do f rfl rfl rfl (y_field rfl rfl (fo rfl)) ?_; clear f A; intro A f
     refine l_do f rfl rfl rfl (y_load1 rfl rfl (ag rfl) (rowl (rowq rb1) rfl)) ?_; clear f A; intro A f
     refine l_do f rfl rfl rfl (y_move rfl rfl) ?_; clear f A; intro A f
     obtain ⟨ga, oa, nma, sza, pra, ora, sla, aca, noa, nna, nca, soa, sna, sca, aoa, ana, aka, haa, c0a, c1a, c2a, c3a, c4a, c5a, hNa, hBa, hAa, hXa⟩ := (hx.caches).at (k) (by omega)
     replace c0a := St.of c0a; replace c1a := St.of c1a; replace c2a := St.of c2a; replace c3a := St.of c3a; replace c4a := St.of c4a; replace c5a := St.of c5a
     have l1 := hNa.len
     have rN := hNa.reach
     have l2 := hBa.len
     have rB := hBa.reach
     refine l_do f rfl rfl rfl (y_index rfl rfl (by first | rfl | assumption) rfl (es rfl) (by omega)) ?_; clear f A; intro A f
     refine l_do f rfl rfl rfl (y_loadN (vs := [_, _, _, _, _, _]) rfl rfl (ag rfl) rfl ⟨(by first | assumption | exact St.q c0a B0 | exact St.q c1a B0 | exact St.q c2a B0 | exact St.q c3a B0 | exact St.q c4a B0 | exact St.q c5a B0), (by first | assumption | exact St.q c0a B0 | exact St.q c1a B0 | exact St.q c2a B0 | exact St.q c3a B0 | exact St.q c4a B0 | exact St.q c5a B0), (by first | assumption | exact St.q c0a B0 | exact St.q c1a B0 | exact St.q c2a B0 | exact St.q c3a B0 | exact St.q c4a B0 | exact St.q c5a B0), (by first | assumption | exact St.q c0a B0 | exact St.q c1a B0 | exact St.q c2a B0 | exact St.q c3a B0 | exact St.q c4a B0 | exact St.q c5a B0), (by first | assumption | exact St.q c0a B0 | exact St.q c1a B0 | exact St.q c2a B0 | exact St.q c3a B0 | exact St.q c4a B0 | exact St.q c5a B0), (by first | assumption | exact St.q c0a B0 | exact St.q c1a B0 | exact St.q c2a B0 | exact St.q c3a B0 | exact St.q c4a B0 | exact St.q c5a B0), trivial⟩) ?_; clear f A; intro A f
     have hlN : ∀ q ∈ blkA no, q < W9.heap.size := fun q hq => (owns_lt ownN hq).2
     have hlP : ∀ q ∈ blkA so, q < W9.heap.size := fun q hq => (owns_lt ownP hq).2
     refine l_as (z := .agg #[.slice none 0 0, .int .i64 0, .int .i64 0, .int .i64 0, .slice none 0 0, .slice none 0 0]) f rfl rfl rfl rfl (by kernel_rfl) rfl rfl (fun _ => rfl) (fun _ => rfl) rfl (by intro u hu; simp [Value.cells] at hu; rcases hu with rfl | rfl | rfl | rfl | rfl | rfl <;> rfl) ?_; clear f A; intro b11 W12 eb11 hb13 rb11 A f
     dsimp only [Value.cells] at rb11
     have hpb11 := hb13
     have o_b1_b11 : b1 < b11 := by have := row_lt rb1; omega
     have z_B0_b11 := B0.size; rw [eb11] at z_B0_b11
     replace B0 := Below.next B0 hb13; replace rb1 := row_next rb1 hb13; replace ownN := owns_below ownN hb13 (Nat.le_refl _); replace ownP := owns_below ownP hb13 (Nat.le_refl _); replace hsw := Nat.le_trans hsw hb13.size
     refine wpList_nil ?_
     refine x_tn ?_
     refine wp_seq ?_
     refine wp_seq ?_
     refine sx_list ?_
     refine l_do f rfl rfl rfl (y_loadN (vs := [_, _, _, _, _, _, _]) rfl rfl (ag rfl) rfl (rowls (rowq rb1) _ _ ⟨rfl, rfl, rfl, rfl, rfl, rfl, rfl, trivial⟩)) ?_; clear f A; intro A f
     refine l_do f rfl rfl rfl (y_loadN (vs := [_, _, _, _, _, _]) rfl rfl (ag rfl) rfl (rowls (rowq rb11) _ _ ⟨rfl, rfl, rfl, rfl, rfl, rfl, trivial⟩)) ?_; clear f A; intro A f
     have hcat := (hx.caches.at_ _ (getD_mem (d := Cc.zero) (show k < x.cs.length by omega)))
     rw [hXa.out] at hcat
     have hn6 : b11 ∉ blkA no := fun h => by have := hlN _ h; omega
     have hp6 : b11 ∉ blkA so := fun h => by have := hlP _ h; omega
     refine l_callB _ f rfl rfl rfl (IsCall.mk' (cap := []) rfl rfl rfl) (pl rfl) (cacheMay_any _ x ⟨⟨nma, sza, pra, ora, sla, aca⟩, noa, nna, nca, soa, sna, sca, aoa, ana, aka⟩ (hx.below B0) (hcat.below B0) hm) ?_ ?_
     ·clear f A; intro c14 W16 hb15 A f
      replace B0 := Below.next B0 hb15; replace rb1 := row_next rb1 hb15; replace rb11 := row_next rb11 hb15; replace ownN := owns_below ownN hb15 (Nat.le_refl _); replace ownP := owns_below ownP hb15 (Nat.le_refl _); replace hsw := Nat.le_trans hsw hb15.size
      have hcm : ChMay x.words x.h.hp (x.cs.getD k .zero).c := by rw [hXa.out]; exact c14
      refine l_do f rfl rfl rfl (y_not rfl rfl) ?_; clear f A; intro A f
      refine wpList_nil ?_
      refine x_tn ?_
      refine x_condF f rfl ?_
      refine wp_skip ?_
      refine x_tn ?_
      refine wp_seq ?_
      refine wp_seq ?_
      refine sx_list ?_
      refine l_do f rfl rfl rfl (y_assign rfl rfl) ?_; clear f A; intro A f
      refine wpList_nil ?_
      refine x_tn ?_
      refine wp_block ?_
      refine x_loop (fun n A W => ∃ q : Nat, n = k - q ∧ q ≤ k ∧ Fr A 147 [(1, .pointer (some ⟨b1, 0, none⟩)), (5, .int .i64 (k : Nat)), (6, .pointer (some ⟨b11, 0, none⟩)), (3, .slice no nN nc), (4, .slice so nP sc), (7, .int .i64 (q : Nat))] ∧ Below w.heap.size w W ∧ W.heap[b1]? = some (.cells #[.slice x.wo x.wn x.wc, .slice x.h.zo x.h.zn x.h.zc, .slice x.h.mo x.h.mn x.h.mc, .int .i64 x.h.cpus, .slice x.h.lo x.h.ln x.h.lc, .slice x.h.vo x.h.vn x.h.vc, .slice x.co x.cn x.cc] 30 (0, 0)) ∧ W.heap[b11]? = some (.cells #[.slice noa nna nca, .int .i64 sza, .int .i64 pra, .int .i64 ora, .slice soa sna sca, .slice aoa ana aka] 45 (0, 0)) ∧ W.ownsRow sb 9 1 (.slice no nN nc) nN (svals (upTo Ch.names x.cs k)) ∧ W.ownsRow sb 3 1 (.slice so nP sc) nP (vals (upTo pgs x.cs k)) ∧ Dis no so ∧ sb ≤ W.heap.size ∧ ∀ p, p < q → (x.cs.getD p .zero).c.size ≠ sza) (n0 := k) (⟨0, rfl, Nat.zero_le _, f.sub ⟨rfl, rfl, rfl, rfl, rfl, rfl, trivial⟩, B0, rb1, rb11, ownN, ownP, hds, hsw, fun p hp => absurd hp (Nat.not_lt_zero p)⟩) ?_
      clear f A
      clear B0 rb1 rb11 ownN ownP hds hsw
      rintro n2 A W17 ⟨q, hn2, hq, f, B0, rb1, rb11, ownN, ownP, hds, hsw, hdq⟩
      refine wp_seq ?_
      refine wp_seq ?_
      refine sx_list ?_
      refine l_do f rfl rfl rfl (y_move rfl rfl) ?_; clear f A; intro A f
      refine l_do f rfl rfl rfl (y_move rfl rfl) ?_; clear f A; intro A f
      refine l_if _ f rfl rfl rfl (y_lss rfl rfl rfl) ?_ ?_
      ·clear f A; intro c18 A f
       refine wpList_nil ?_
       refine x_tn ?_
       refine x_condT f rfl ?_
       refine wp_skip ?_
       refine x_tn ?_
       refine wp_seq ?_
       refine wp_block ?_
       refine wp_seq ?_
       refine sx_quiet (by kernel_rfl) (by kernel_rfl) ?_
       refine q_do f rfl rfl rfl (y_field rfl rfl (fo rfl)) ?_; clear f A; intro A f
       refine q_do f rfl rfl rfl (y_load1 rfl rfl (ag rfl) (rowl (rowq rb1) rfl)) ?_; clear f A; intro A f
       refine q_do f rfl rfl rfl (y_move rfl rfl) ?_; clear f A; intro A f
       obtain ⟨gb, ob, nmb, szb, prb, orb, slb, acb, nob, nnb, ncb, sob, snb, scb, aob, anb, akb, hab, c0b, c1b, c2b, c3b, c4b, c5b, hNb, hBb, hAb, hXb⟩ := (hx.caches).at (q) (by omega)
       replace c0b := St.of c0b; replace c1b := St.of c1b; replace c2b := St.of c2b; replace c3b := St.of c3b; replace c4b := St.of c4b; replace c5b := St.of c5b
       rw [haa] at hab; simp only [Option.some.injEq, Addr.mk.injEq, and_true] at hab; obtain ⟨rfl, rfl⟩ := hab
       refine q_do f rfl rfl rfl (y_index rfl rfl (by first | rfl | assumption) rfl (es rfl) (by omega)) ?_; clear f A; intro A f
       refine q_do f rfl rfl rfl (y_field rfl rfl (fo rfl)) ?_; clear f A; intro A f
       refine q_do f rfl rfl rfl (y_load1 rfl rfl (ag rfl) (by first | assumption | exact St.q c0a B0 | exact St.q c1a B0 | exact St.q c2a B0 | exact St.q c3a B0 | exact St.q c4a B0 | exact St.q c5a B0 | exact St.q c0b B0 | exact St.q c1b B0 | exact St.q c2b B0 | exact St.q c3b B0 | exact St.q c4b B0 | exact St.q c5b B0)) ?_; clear f A; intro A f
       refine q_do f rfl rfl rfl (y_field rfl rfl (fo rfl)) ?_; clear f A; intro A f
       refine q_do f rfl rfl rfl (y_load1 rfl rfl (ag rfl) (rowl (rowq rb11) rfl)) ?_; clear f A; intro A f
       refine q_if _ f rfl rfl rfl (y_eql rfl rfl rfl) ?_ ?_
       ·clear f A; intro c19 A f
        refine wpQuiet_nil ?_; intro W21 hb20; replace B0 := Below.next B0 hb20; replace rb1 := row_next rb1 hb20; replace rb11 := row_next rb11 hb20; replace ownN := owns_below ownN hb20 (Nat.le_refl _); replace ownP := owns_below ownP hb20 (Nat.le_refl _); replace hsw := Nat.le_trans hsw hb20.size
        refine x_tn ?_
        refine x_condT f rfl ?_
        refine wp_seq ?_
        refine sx_list ?_
        refine l_do f rfl rfl rfl (y_assign rfl rfl) ?_; clear f A; intro A f
        refine wpList_nil ?_
        refine x_tn ?_
        refine wp_ret ?_
        refine x_br ?_
        refine x_tr ?_
        refine x_tr ?_
        refine x_br ?_
        refine x_tr ?_
        refine x_br ?_
        refine x_tr ?_
        refine x_tr ?_
        refine x_br ?_
        refine x_tr ?_
        refine x_ret1 f rfl rfl ?_
        exact ⟨retB_false (fun hh => upTo_twice szs x.cs 0 (j := 0) (show k < x.cs.length by omega) (by rw [hXa.out]) rfl (by simp) (unlike_size hh.unlike) (by rw [List.take_zero, List.append_nil]; exact (upTo_mem (by omega)).2 ⟨q, by omega, by rw [hXb.out]; exact List.mem_singleton.2 c19.symm⟩)), B0⟩
       ·clear f A; intro c19 A f
        refine wpQuiet_nil ?_; intro W23 hb22; replace B0 := Below.next B0 hb22; replace rb1 := row_next rb1 hb22; replace rb11 := row_next rb11 hb22; replace ownN := owns_below ownN hb22 (Nat.le_refl _); replace ownP := owns_below ownP hb22 (Nat.le_refl _); replace hsw := Nat.le_trans hsw hb22.size
        refine x_tn ?_
        refine x_condF f rfl ?_
        refine wp_skip ?_
        refine x_bn ?_
        refine x_tn ?_
        refine sx_list ?_
        refine l_do f rfl rfl rfl (y_move rfl rfl) ?_; clear f A; intro A f
        refine l_do f rfl rfl rfl (y_add rfl rfl rfl rfl (by omega)) ?_; clear f A; intro A f
        refine l_do f rfl rfl rfl (y_assign rfl rfl) ?_; clear f A; intro A f
        refine wpList_nil ?_
        refine x_tn ?_
        exact ⟨k - (q + 1), by omega, q + 1, rfl, by omega, f.sub ⟨rfl, rfl, rfl, rfl, rfl, rfl, trivial⟩, B0, rb1, rb11, ownN, ownP, hds, hsw, fun p hp => by by_cases e : p = q; (subst e; rw [hXb.out]; exact c19); exact hdq p (by omega)⟩
      ·clear f A; intro c18 A f
       refine wpList_nil ?_
       refine x_tn ?_
       refine x_condF f rfl ?_
       refine wp_exit ?_
       refine x_te ?_
       refine x_te ?_
       refine x_bh ?_
       refine x_tn ?_
       refine wp_seq ?_
       refine wp_seq ?_
       refine sx_list ?_
       refine l_do f rfl rfl rfl (y_assign rfl rfl) ?_; clear f A; intro A f
       refine wpList_nil ?_
       refine x_tn ?_
       refine wp_block ?_
       have hsn : sza ∉ upTo szs x.cs k := fun h => by
        obtain ⟨i, hi, hxi⟩ := (upTo_mem (by omega)).1 h
        rw [List.mem_singleton] at hxi
        exact hdq i (by omega) hxi.symm
       refine x_loop (fun n A W => ∃ (j nN2 : Nat) (no2 : Option Addr) (nc2 : Nat), n = nna - j ∧ j ≤ nna ∧ Fr A 147 [(1, .pointer (some ⟨b1, 0, none⟩)), (5, .int .i64 (k : Nat)), (6, .pointer (some ⟨b11, 0, none⟩)), (3, .slice no2 nN2 nc2), (4, .slice so nP sc), (8, .int .i64 (j : Nat))] ∧ Below w.heap.size w W ∧ W.heap[b1]? = some (.cells #[.slice x.wo x.wn x.wc, .slice x.h.zo x.h.zn x.h.zc, .slice x.h.mo x.h.mn x.h.mc, .int .i64 x.h.cpus, .slice x.h.lo x.h.ln x.h.lc, .slice x.h.vo x.h.vn x.h.vc, .slice x.co x.cn x.cc] 30 (0, 0)) ∧ W.heap[b11]? = some (.cells #[.slice noa nna nca, .int .i64 sza, .int .i64 pra, .int .i64 ora, .slice soa sna sca, .slice aoa ana aka] 45 (0, 0)) ∧ W.ownsRow sb 9 1 (.slice no2 nN2 nc2) nN2 (svals (upTo Ch.names x.cs k ++ nma.take j)) ∧ W.ownsRow sb 3 1 (.slice so nP sc) nP (vals (upTo pgs x.cs k)) ∧ Dis no2 so ∧ sb ≤ W.heap.size ∧ b11 ∉ blkA no2 ∧ NIn nma j ∧ (upTo Ch.names x.cs k ++ nma.take j).Nodup) (n0 := nna) (⟨0, nN, no, nc, rfl, Nat.zero_le _, f.sub ⟨rfl, rfl, rfl, rfl, rfl, rfl, trivial⟩, B0, rb1, rb11, by rw [List.take_zero, List.append_nil]; exact ownN, ownP, hds, hsw, hn6, NIn.zero nma, by rw [List.take_zero, List.append_nil]; exact hnd⟩) ?_
       clear f A
       clear B0 rb1 rb11 ownN ownP hds hsw
       rintro n3 A W24 ⟨j, nN2, no2, nc2, hn3, hj, f, B0, rb1, rb11, ownN, ownP, hds2, hsw, hn62, hni, hnd2⟩
       have hxl : (upTo Ch.names x.cs k ++ nma.take j).length = nN2 := by have := ownN.1; rw [svals, List.length_map] at this; omega
       have hfw := names_few hnd2 (names_ok (by omega) hnt hni)
       have hgN : ∀ q ∈ blkA no2, sb ≤ q := fun q hq => (owns_lt ownN hq).1
       have lb3 := row_lt rb11
       refine wp_seq ?_
       refine wp_seq ?_
       refine sx_list ?_
       refine l_do f rfl rfl rfl (y_move rfl rfl) ?_; clear f A; intro A f
       refine l_do f rfl rfl rfl (y_field rfl rfl (fo rfl)) ?_; clear f A; intro A f
       refine l_do f rfl rfl rfl (y_load1 rfl rfl (ag rfl) (rowl (rowq rb11) rfl)) ?_; clear f A; intro A f
       refine l_do f rfl rfl rfl (y_len rfl rfl (sl rfl)) ?_; clear f A; intro A f
       refine l_if _ f rfl rfl rfl (y_lss rfl rfl rfl) ?_ ?_
       ·clear f A; intro c25 A f
        refine wpList_nil ?_
        refine x_tn ?_
        refine x_condT f rfl ?_
        refine wp_skip ?_
        refine x_tn ?_
        refine wp_seq ?_
        refine wp_block ?_
        refine wp_seq ?_
        refine wp_seq ?_
        refine sx_quiet (by kernel_rfl) (by kernel_rfl) ?_
        refine q_do f rfl rfl rfl (y_field rfl rfl (fo rfl)) ?_; clear f A; intro A f
        refine q_do f rfl rfl rfl (y_load1 rfl rfl (ag rfl) (rowl (rowq rb11) rfl)) ?_; clear f A; intro A f
        refine q_do f rfl rfl rfl (y_move rfl rfl) ?_; clear f A; intro A f
        obtain ⟨gs, os, sa, has, q1, hS⟩ := hNa.at j (by omega)
        replace q1 := St.of q1
        have hml : sa.size ≤ 9223372036854775807 := by
         have h1 := (hf _ (getD_mem (d := Cc.zero) (show k < x.cs.length by omega))).n
         rw [hXa.out] at h1
         have h2 := h1 _ (getD_mem (d := (default : ByteArray)) (show j < nma.length by omega))
         rw [hS.out] at h2
         unfold maxLen at h2
         omega
        refine q_do f rfl rfl rfl (y_index rfl rfl (by first | rfl | assumption) rfl (es rfl) (by omega)) ?_; clear f A; intro A f
        refine q_do f rfl rfl rfl (y_load1 rfl rfl (ag rfl) (by first | assumption | exact St.q c0a B0 | exact St.q c1a B0 | exact St.q c2a B0 | exact St.q c3a B0 | exact St.q c4a B0 | exact St.q c5a B0 | exact St.q q1 B0)) ?_; clear f A; intro A f
        have inst2 := Classical.propDecidable (NameOk sa)
        refine q_callif (NameOk sa) f rfl rfl rfl (IsCall.mk' (cap := []) rfl rfl rfl) (pl rfl) (c_cl fun wx => retB_dec (refNameMay_any wx sa hml)) ?_ ?_
        ·clear f A; intro c26 A f
         have hok := c26
         refine q_do f rfl rfl rfl (y_not rfl rfl) ?_; clear f A; intro A f
         refine q_do f rfl rfl rfl (y_move rfl rfl) ?_; clear f A; intro A f
         refine q_do f rfl rfl rfl (y_move rfl rfl) ?_; clear f A; intro A f
         refine q_if _ f rfl rfl rfl (y_gtr rfl rfl rfl) ?_ ?_
         ·clear f A; intro c27 A f
          refine q_do f rfl rfl rfl (y_move rfl rfl) ?_; clear f A; intro A f
          refine q_do f rfl rfl rfl (y_field rfl rfl (fo rfl)) ?_; clear f A; intro A f
          refine q_do f rfl rfl rfl (y_load1 rfl rfl (ag rfl) (rowl (rowq rb11) rfl)) ?_; clear f A; intro A f
          refine q_do f rfl rfl rfl (y_move rfl rfl) ?_; clear f A; intro A f
          refine q_do f rfl rfl rfl (y_index rfl rfl (by first | rfl | assumption) rfl (es rfl) (by omega)) ?_; clear f A; intro A f
          refine q_do f rfl rfl rfl (y_load1 rfl rfl (ag rfl) (by first | assumption | exact St.q c0a B0 | exact St.q c1a B0 | exact St.q c2a B0 | exact St.q c3a B0 | exact St.q c4a B0 | exact St.q c5a B0 | exact St.q q1 B0)) ?_; clear f A; intro A f
          refine q_do f rfl rfl rfl (y_field rfl rfl (fo rfl)) ?_; clear f A; intro A f
          refine q_do f rfl rfl rfl (y_load1 rfl rfl (ag rfl) (rowl (rowq rb11) rfl)) ?_; clear f A; intro A f
          refine q_do f rfl rfl rfl (y_move rfl rfl) ?_; clear f A; intro A f
          refine q_do f rfl rfl rfl (y_sub (c := ((j - 1 : Nat) : Int)) rfl rfl rfl (by omega) (by omega)) ?_; clear f A; intro A f
          obtain ⟨gt, ot, sp, hat, q2, hT⟩ := hNa.at (j - 1) (by omega)
          replace q2 := St.of q2
          rw [has] at hat; simp only [Option.some.injEq, Addr.mk.injEq, and_true] at hat; obtain ⟨rfl, rfl⟩ := hat
          refine q_do f rfl rfl rfl (y_index rfl rfl (by first | rfl | assumption) rfl (es rfl) (by omega)) ?_; clear f A; intro A f
          refine q_do f rfl rfl rfl (y_load1 rfl rfl (ag rfl) (by first | assumption | exact St.q c0a B0 | exact St.q c1a B0 | exact St.q c2a B0 | exact St.q c3a B0 | exact St.q c4a B0 | exact St.q c5a B0 | exact St.q q1 B0 | exact St.q q2 B0)) ?_; clear f A; intro A f
          refine q_if _ f rfl rfl rfl (y_leqS rfl rfl rfl) ?_ ?_
          ·clear f A; intro c28 A f
           refine q_do f rfl rfl rfl (y_pick rfl rfl rfl) ?_; clear f A; intro A f
           refine q_do f rfl rfl rfl (y_pick rfl rfl rfl) ?_; clear f A; intro A f
           refine wpQuiet_nil ?_; intro W30 hb29; replace B0 := Below.next B0 hb29; replace rb1 := row_next rb1 hb29; replace rb11 := row_next rb11 hb29; replace ownN := owns_below ownN hb29 (Nat.le_refl _); replace ownP := owns_below ownP hb29 (Nat.le_refl _); replace hsw := Nat.le_trans hsw hb29.size
           refine x_tn ?_
           refine x_condT f rfl ?_
           refine wp_seq ?_
           refine sx_list ?_
           refine l_do f rfl rfl rfl (y_assign rfl rfl) ?_; clear f A; intro A f
           refine wpList_nil ?_
           refine x_tn ?_
           refine wp_ret ?_
           refine x_tr ?_
           refine x_br ?_
           refine x_tr ?_
           refine x_tr ?_
           refine x_br ?_
           refine x_tr ?_
           refine x_br ?_
           refine x_tr ?_
           refine x_tr ?_
           refine x_br ?_
           refine x_tr ?_
           refine x_ret1 f rfl rfl ?_
           refine ⟨retB_false (fun hh => ?_), B0⟩
           have h1 := (namesMay_at hh.names (show k < x.cs.length by omega)).2
           rw [hXa.out] at h1
           have h2 := h1 j (by show j < nma.length; omega) (by omega)
           dsimp only at h2
           rw [hS.out, hT.out, c28] at h2
           cases h2
          ·clear f A; intro c28 A f
           refine q_do f rfl rfl rfl (y_pick rfl rfl rfl) ?_; clear f A; intro A f
           refine q_do f rfl rfl rfl (y_pick rfl rfl rfl) ?_; clear f A; intro A f
           refine wpQuiet_nil ?_; intro W32 hb31; replace B0 := Below.next B0 hb31; replace rb1 := row_next rb1 hb31; replace rb11 := row_next rb11 hb31; replace ownN := owns_below ownN hb31 (Nat.le_refl _); replace ownP := owns_below ownP hb31 (Nat.le_refl _); replace hsw := Nat.le_trans hsw hb31.size
           refine x_tn ?_
           refine x_condF f rfl ?_
           refine wp_skip ?_
           refine x_tn ?_
           refine wp_seq ?_
           refine wp_seq ?_
           refine sx_list ?_
           refine l_do f rfl rfl rfl (y_assign rfl rfl) ?_; clear f A; intro A f
           refine wpList_nil ?_
           refine x_tn ?_
           refine wp_block ?_
           have hle : ¬ strLe sa (if 0 < j then nma.getD (j - 1) default else ⟨#[]⟩) = true := by rw [if_pos (by omega), hT.out]; exact c28
           refine x_loop (fun n A W => ∃ q : Nat, n = nN2 - q ∧ q ≤ nN2 ∧ Fr A 147 [(1, .pointer (some ⟨b1, 0, none⟩)), (5, .int .i64 (k : Nat)), (6, .pointer (some ⟨b11, 0, none⟩)), (3, .slice no2 nN2 nc2), (4, .slice so nP sc), (8, .int .i64 (j : Nat)), (9, .int .i64 (q : Nat))] ∧ Below w.heap.size w W ∧ W.heap[b1]? = some (.cells #[.slice x.wo x.wn x.wc, .slice x.h.zo x.h.zn x.h.zc, .slice x.h.mo x.h.mn x.h.mc, .int .i64 x.h.cpus, .slice x.h.lo x.h.ln x.h.lc, .slice x.h.vo x.h.vn x.h.vc, .slice x.co x.cn x.cc] 30 (0, 0)) ∧ W.heap[b11]? = some (.cells #[.slice noa nna nca, .int .i64 sza, .int .i64 pra, .int .i64 ora, .slice soa sna sca, .slice aoa ana aka] 45 (0, 0)) ∧ W.ownsRow sb 9 1 (.slice no2 nN2 nc2) nN2 (svals (upTo Ch.names x.cs k ++ nma.take j)) ∧ W.ownsRow sb 3 1 (.slice so nP sc) nP (vals (upTo pgs x.cs k)) ∧ sb ≤ W.heap.size ∧ ∀ p, p < q → (upTo Ch.names x.cs k ++ nma.take j).getD p default ≠ sa) (n0 := nN2) (⟨0, rfl, Nat.zero_le _, f.sub ⟨rfl, rfl, rfl, rfl, rfl, rfl, rfl, trivial⟩, B0, rb1, rb11, ownN, ownP, hsw, fun p hp => absurd hp (Nat.not_lt_zero p)⟩) ?_
           clear f A
           clear B0 rb1 rb11 ownN ownP hsw
           rintro n4 A W33 ⟨q, hn4, hq4, f, B0, rb1, rb11, ownN, ownP, hsw, hnq⟩
           have BW := Below.refl W33.heap.size W33
           refine wp_seq ?_
           refine wp_seq ?_
           refine sx_list ?_
           refine l_do f rfl rfl rfl (y_move rfl rfl) ?_; clear f A; intro A f
           refine l_do f rfl rfl rfl (y_move rfl rfl) ?_; clear f A; intro A f
           refine l_do f rfl rfl rfl (y_len rfl rfl (sl rfl)) ?_; clear f A; intro A f
           refine l_if _ f rfl rfl rfl (y_lss rfl rfl rfl) ?_ ?_
           ·clear f A; intro c34 A f
            refine wpList_nil ?_
            refine x_tn ?_
            refine x_condT f rfl ?_
            refine wp_skip ?_
            refine x_tn ?_
            refine wp_seq ?_
            refine wp_block ?_
            refine wp_seq ?_
            refine sx_quiet (by kernel_rfl) (by kernel_rfl) ?_
            refine q_do f rfl rfl rfl (y_move rfl rfl) ?_; clear f A; intro A f
            refine q_do f rfl rfl rfl (y_move rfl rfl) ?_; clear f A; intro A f
            obtain ⟨gu, ou, hau, q3⟩ := strs_of_owns ownN q (by omega)
            replace q3 := St.of q3
            rw [show ou + q = ou + q * 1 by omega] at q3
            refine q_do f rfl rfl rfl (y_index rfl rfl (by first | rfl | assumption) rfl (es rfl) (by omega)) ?_; clear f A; intro A f
            refine q_do f rfl rfl rfl (y_load1 rfl rfl (ag rfl) (by first | assumption | exact St.q c0a B0 | exact St.q c1a B0 | exact St.q c2a B0 | exact St.q c3a B0 | exact St.q c4a B0 | exact St.q c5a B0 | exact St.q q1 B0 | exact St.q q3 BW)) ?_; clear f A; intro A f
            refine q_do f rfl rfl rfl (y_field rfl rfl (fo rfl)) ?_; clear f A; intro A f
            refine q_do f rfl rfl rfl (y_load1 rfl rfl (ag rfl) (rowl (rowq rb11) rfl)) ?_; clear f A; intro A f
            refine q_do f rfl rfl rfl (y_move rfl rfl) ?_; clear f A; intro A f
            refine q_do f rfl rfl rfl (y_index rfl rfl (by first | rfl | assumption) rfl (es rfl) (by omega)) ?_; clear f A; intro A f
            refine q_do f rfl rfl rfl (y_load1 rfl rfl (ag rfl) (by first | assumption | exact St.q c0a B0 | exact St.q c1a B0 | exact St.q c2a B0 | exact St.q c3a B0 | exact St.q c4a B0 | exact St.q c5a B0 | exact St.q q1 B0 | exact St.q q3 BW)) ?_; clear f A; intro A f
            refine q_if _ f rfl rfl rfl (y_eqlS rfl rfl rfl) ?_ ?_
            ·clear f A; intro c35 A f
             refine wpQuiet_nil ?_; intro W37 hb36; replace B0 := Below.next B0 hb36; replace BW := Below.next BW hb36; replace rb1 := row_next rb1 hb36; replace rb11 := row_next rb11 hb36; replace ownN := owns_below ownN hb36 (Nat.le_refl _); replace ownP := owns_below ownP hb36 (Nat.le_refl _); replace hsw := Nat.le_trans hsw hb36.size
             refine x_tn ?_
             refine x_condT f rfl ?_
             refine wp_seq ?_
             refine sx_list ?_
             refine l_do f rfl rfl rfl (y_assign rfl rfl) ?_; clear f A; intro A f
             refine wpList_nil ?_
             refine x_tn ?_
             refine wp_ret ?_
             refine x_br ?_
             refine x_tr ?_
             refine x_tr ?_
             refine x_br ?_
             refine x_tr ?_
             refine x_br ?_
             refine x_tr ?_
             refine x_tr ?_
             refine x_br ?_
             refine x_tr ?_
             refine x_br ?_
             refine x_tr ?_
             refine x_tr ?_
             refine x_br ?_
             refine x_tr ?_
             refine x_ret1 f rfl rfl ?_
             exact ⟨retB_false (fun hh => upTo_twice Ch.names x.cs default (show k < x.cs.length by omega) (by rw [hXa.out]) hS.out (by omega) hh.names.dis (by rw [← c35]; exact getD_mem (d := (default : ByteArray)) (by omega))), B0⟩
            ·clear f A; intro c35 A f
             refine wpQuiet_nil ?_; intro W39 hb38; replace B0 := Below.next B0 hb38; replace BW := Below.next BW hb38; replace rb1 := row_next rb1 hb38; replace rb11 := row_next rb11 hb38; replace ownN := owns_below ownN hb38 (Nat.le_refl _); replace ownP := owns_below ownP hb38 (Nat.le_refl _); replace hsw := Nat.le_trans hsw hb38.size
             refine x_tn ?_
             refine x_condF f rfl ?_
             refine wp_skip ?_
             refine x_bn ?_
             refine x_tn ?_
             refine sx_list ?_
             refine l_do f rfl rfl rfl (y_move rfl rfl) ?_; clear f A; intro A f
             refine l_do f rfl rfl rfl (y_add rfl rfl rfl rfl (by omega)) ?_; clear f A; intro A f
             refine l_do f rfl rfl rfl (y_assign rfl rfl) ?_; clear f A; intro A f
             refine wpList_nil ?_
             refine x_tn ?_
             exact ⟨nN2 - (q + 1), by omega, q + 1, rfl, by omega, f.sub ⟨rfl, rfl, rfl, rfl, rfl, rfl, rfl, trivial⟩, B0, rb1, rb11, ownN, ownP, hsw, fun p hp => by by_cases e : p = q; (subst e; exact c35); exact hnq p (by omega)⟩
           ·clear f A; intro c34 A f
            refine wpList_nil ?_
            refine x_tn ?_
            refine x_condF f rfl ?_
            refine wp_exit ?_
            refine x_te ?_
            refine x_te ?_
            refine x_bh ?_
            refine x_tn ?_
            refine sx_list ?_
            refine l_do f rfl rfl rfl (y_move rfl rfl) ?_; clear f A; intro A f
            refine l_do f rfl rfl rfl (y_field rfl rfl (fo rfl)) ?_; clear f A; intro A f
            refine l_do f rfl rfl rfl (y_load1 rfl rfl (ag rfl) (rowl (rowq rb11) rfl)) ?_; clear f A; intro A f
            refine l_do f rfl rfl rfl (y_move rfl rfl) ?_; clear f A; intro A f
            refine l_do f rfl rfl rfl (y_index rfl rfl (by first | rfl | assumption) rfl (es rfl) (by omega)) ?_; clear f A; intro A f
            refine l_do f rfl rfl rfl (y_load1 rfl rfl (ag rfl) (by first | assumption | exact St.q c0a B0 | exact St.q c1a B0 | exact St.q c2a B0 | exact St.q c3a B0 | exact St.q c4a B0 | exact St.q c5a B0 | exact St.q q1 B0)) ?_; clear f A; intro A f
            have hnm : sa ∉ upTo Ch.names x.cs k ++ nma.take j := fun h => by
             obtain ⟨i, hi, he⟩ := List.getElem_of_mem h
             exact hnq i (by omega) (by rw [List.getD_eq_getElem?_getD, List.getElem?_eq_getElem hi]; exact he)
            refine l_bs1 f rfl rfl rfl rfl rfl (bs_str1 sa) ?_; clear f A; intro g40 W41 eg40 hb42 rg40 A f
            replace B0 := Below.next B0 hb42; replace rb1 := row_next rb1 hb42; replace rb11 := row_next rb11 hb42; replace ownN := owns_below ownN hb42 (Nat.le_refl _); replace ownP := owns_below ownP hb42 (Nat.le_refl _); replace hsw := Nat.le_trans hsw hb42.size
            refine l_ap1 f rfl rfl rfl rfl rfl rfl Try.underlying42 info_str rfl ownN rg40 rfl (by omega) hsw ?_; clear f A; intro g43 k44 W45 ownN2 hb46 hgn A f
            have hlq : ∀ q ∈ blkA so, q < W41.heap.size := fun q hq => (owns_lt ownP hq).2
            have lb6 := row_lt rb11
            have hn63 := new_not hgn hn62 lb6
            have hds3 := new_dis hgn hds2 hlq
            replace rb1 := hb46.row rb1 (fun h => by have := hgN _ h; omega); replace rb11 := hb46.row rb11 hn62; replace ownP := hb46.owns ownP hds2; replace ownN := ownN2; replace hsw := Nat.le_trans hsw hb46.size; replace B0 := hb46.below B0 B0.size (fun q hq => by have := hgN q hq; have := z_B0_b1; omega)
            refine l_do f rfl rfl rfl (y_assign rfl rfl) ?_; clear f A; intro A f
            refine wpList_nil ?_
            refine x_bn ?_
            refine x_tn ?_
            refine sx_list ?_
            refine l_do f rfl rfl rfl (y_move rfl rfl) ?_; clear f A; intro A f
            refine l_do f rfl rfl rfl (y_add rfl rfl rfl rfl (by omega)) ?_; clear f A; intro A f
            refine l_do f rfl rfl rfl (y_assign rfl rfl) ?_; clear f A; intro A f
            refine wpList_nil ?_
            refine x_tn ?_
            exact ⟨nna - (j + 1), by omega, j + 1, nN2 + 1, some ⟨g43, 0, none⟩, k44, rfl, by omega, f.sub ⟨rfl, rfl, rfl, rfl, rfl, rfl, trivial⟩, B0, rb1, rb11, by rw [upTo_step Ch.names x.cs default hS.out (show j < nma.length by omega)]; rw [show svals ((upTo Ch.names x.cs k ++ nma.take j) ++ [sa]) = svals (upTo Ch.names x.cs k ++ nma.take j) ++ [.string sa] by rw [svals, List.map_append]; rfl]; exact ownN, ownP, hds3, hsw, hn63, hni.put hS.out hok (last := if 0 < j then nma.getD (j - 1) default else ⟨#[]⟩) (fun h => by rw [if_pos h]) hle, upTo_more Ch.names x.cs default hS.out (by omega) hnd2 hnm⟩
         ·clear f A; intro c27 A f
          refine q_do f rfl rfl rfl (y_move rfl rfl) ?_; clear f A; intro A f
          refine q_no f rfl rfl rfl ?_; clear f A; intro A f
          refine q_no f rfl rfl rfl ?_; clear f A; intro A f
          refine q_no f rfl rfl rfl ?_; clear f A; intro A f
          refine q_no f rfl rfl rfl ?_; clear f A; intro A f
          refine q_no f rfl rfl rfl ?_; clear f A; intro A f
          refine q_no f rfl rfl rfl ?_; clear f A; intro A f
          refine q_no f rfl rfl rfl ?_; clear f A; intro A f
          refine q_no f rfl rfl rfl ?_; clear f A; intro A f
          refine q_no f rfl rfl rfl ?_; clear f A; intro A f
          refine q_no f rfl rfl rfl ?_; clear f A; intro A f
          refine q_no f rfl rfl rfl ?_; clear f A; intro A f
          refine q_no f rfl rfl rfl ?_; clear f A; intro A f
          refine q_do f rfl rfl rfl (y_pick rfl rfl rfl) ?_; clear f A; intro A f
          refine q_do f rfl rfl rfl (y_pick rfl rfl rfl) ?_; clear f A; intro A f
          refine wpQuiet_nil ?_; intro W48 hb47; replace B0 := Below.next B0 hb47; replace rb1 := row_next rb1 hb47; replace rb11 := row_next rb11 hb47; replace ownN := owns_below ownN hb47 (Nat.le_refl _); replace ownP := owns_below ownP hb47 (Nat.le_refl _); replace hsw := Nat.le_trans hsw hb47.size
          refine x_tn ?_
          refine x_condF f rfl ?_
          refine wp_skip ?_
          refine x_tn ?_
          refine wp_seq ?_
          refine wp_seq ?_
          refine sx_list ?_
          refine l_do f rfl rfl rfl (y_assign rfl rfl) ?_; clear f A; intro A f
          refine wpList_nil ?_
          refine x_tn ?_
          refine wp_block ?_
          have hle : ¬ strLe sa (if 0 < j then nma.getD (j - 1) default else ⟨#[]⟩) = true := by rw [if_neg (by omega)]; exact strLe_empty hok
          refine x_loop (fun n A W => ∃ q : Nat, n = nN2 - q ∧ q ≤ nN2 ∧ Fr A 147 [(1, .pointer (some ⟨b1, 0, none⟩)), (5, .int .i64 (k : Nat)), (6, .pointer (some ⟨b11, 0, none⟩)), (3, .slice no2 nN2 nc2), (4, .slice so nP sc), (8, .int .i64 (j : Nat)), (9, .int .i64 (q : Nat))] ∧ Below w.heap.size w W ∧ W.heap[b1]? = some (.cells #[.slice x.wo x.wn x.wc, .slice x.h.zo x.h.zn x.h.zc, .slice x.h.mo x.h.mn x.h.mc, .int .i64 x.h.cpus, .slice x.h.lo x.h.ln x.h.lc, .slice x.h.vo x.h.vn x.h.vc, .slice x.co x.cn x.cc] 30 (0, 0)) ∧ W.heap[b11]? = some (.cells #[.slice noa nna nca, .int .i64 sza, .int .i64 pra, .int .i64 ora, .slice soa sna sca, .slice aoa ana aka] 45 (0, 0)) ∧ W.ownsRow sb 9 1 (.slice no2 nN2 nc2) nN2 (svals (upTo Ch.names x.cs k ++ nma.take j)) ∧ W.ownsRow sb 3 1 (.slice so nP sc) nP (vals (upTo pgs x.cs k)) ∧ sb ≤ W.heap.size ∧ ∀ p, p < q → (upTo Ch.names x.cs k ++ nma.take j).getD p default ≠ sa) (n0 := nN2) (⟨0, rfl, Nat.zero_le _, f.sub ⟨rfl, rfl, rfl, rfl, rfl, rfl, rfl, trivial⟩, B0, rb1, rb11, ownN, ownP, hsw, fun p hp => absurd hp (Nat.not_lt_zero p)⟩) ?_
          clear f A
          clear B0 rb1 rb11 ownN ownP hsw
          rintro n4 A W49 ⟨q, hn4, hq4, f, B0, rb1, rb11, ownN, ownP, hsw, hnq⟩
          have BW := Below.refl W49.heap.size W49
          refine wp_seq ?_
          refine wp_seq ?_
          refine sx_list ?_
          refine l_do f rfl rfl rfl (y_move rfl rfl) ?_; clear f A; intro A f
          refine l_do f rfl rfl rfl (y_move rfl rfl) ?_; clear f A; intro A f
          refine l_do f rfl rfl rfl (y_len rfl rfl (sl rfl)) ?_; clear f A; intro A f
          refine l_if _ f rfl rfl rfl (y_lss rfl rfl rfl) ?_ ?_
          ·clear f A; intro c50 A f
           refine wpList_nil ?_
           refine x_tn ?_
           refine x_condT f rfl ?_
           refine wp_skip ?_
           refine x_tn ?_
           refine wp_seq ?_
           refine wp_block ?_
           refine wp_seq ?_
           refine sx_quiet (by kernel_rfl) (by kernel_rfl) ?_
           refine q_do f rfl rfl rfl (y_move rfl rfl) ?_; clear f A; intro A f
           refine q_do f rfl rfl rfl (y_move rfl rfl) ?_; clear f A; intro A f
           obtain ⟨gu, ou, hau, q3⟩ := strs_of_owns ownN q (by omega)
           replace q3 := St.of q3
           rw [show ou + q = ou + q * 1 by omega] at q3
           refine q_do f rfl rfl rfl (y_index rfl rfl (by first | rfl | assumption) rfl (es rfl) (by omega)) ?_; clear f A; intro A f
           refine q_do f rfl rfl rfl (y_load1 rfl rfl (ag rfl) (by first | assumption | exact St.q c0a B0 | exact St.q c1a B0 | exact St.q c2a B0 | exact St.q c3a B0 | exact St.q c4a B0 | exact St.q c5a B0 | exact St.q q1 B0 | exact St.q q3 BW)) ?_; clear f A; intro A f
           refine q_do f rfl rfl rfl (y_field rfl rfl (fo rfl)) ?_; clear f A; intro A f
           refine q_do f rfl rfl rfl (y_load1 rfl rfl (ag rfl) (rowl (rowq rb11) rfl)) ?_; clear f A; intro A f
           refine q_do f rfl rfl rfl (y_move rfl rfl) ?_; clear f A; intro A f
           refine q_do f rfl rfl rfl (y_index rfl rfl (by first | rfl | assumption) rfl (es rfl) (by omega)) ?_; clear f A; intro A f
           refine q_do f rfl rfl rfl (y_load1 rfl rfl (ag rfl) (by first | assumption | exact St.q c0a B0 | exact St.q c1a B0 | exact St.q c2a B0 | exact St.q c3a B0 | exact St.q c4a B0 | exact St.q c5a B0 | exact St.q q1 B0 | exact St.q q3 BW)) ?_; clear f A; intro A f
           refine q_if _ f rfl rfl rfl (y_eqlS rfl rfl rfl) ?_ ?_
           ·clear f A; intro c51 A f
            refine wpQuiet_nil ?_; intro W53 hb52; replace B0 := Below.next B0 hb52; replace BW := Below.next BW hb52; replace rb1 := row_next rb1 hb52; replace rb11 := row_next rb11 hb52; replace ownN := owns_below ownN hb52 (Nat.le_refl _); replace ownP := owns_below ownP hb52 (Nat.le_refl _); replace hsw := Nat.le_trans hsw hb52.size
            refine x_tn ?_
            refine x_condT f rfl ?_
            refine wp_seq ?_
            refine sx_list ?_
            refine l_do f rfl rfl rfl (y_assign rfl rfl) ?_; clear f A; intro A f
            refine wpList_nil ?_
            refine x_tn ?_
            refine wp_ret ?_
            refine x_br ?_
            refine x_tr ?_
            refine x_tr ?_
            refine x_br ?_
            refine x_tr ?_
            refine x_br ?_
            refine x_tr ?_
            refine x_tr ?_
            refine x_br ?_
            refine x_tr ?_
            refine x_br ?_
            refine x_tr ?_
            refine x_tr ?_
            refine x_br ?_
            refine x_tr ?_
            refine x_ret1 f rfl rfl ?_
            exact ⟨retB_false (fun hh => upTo_twice Ch.names x.cs default (show k < x.cs.length by omega) (by rw [hXa.out]) hS.out (by omega) hh.names.dis (by rw [← c51]; exact getD_mem (d := (default : ByteArray)) (by omega))), B0⟩
           ·clear f A; intro c51 A f
            refine wpQuiet_nil ?_; intro W55 hb54; replace B0 := Below.next B0 hb54; replace BW := Below.next BW hb54; replace rb1 := row_next rb1 hb54; replace rb11 := row_next rb11 hb54; replace ownN := owns_below ownN hb54 (Nat.le_refl _); replace ownP := owns_below ownP hb54 (Nat.le_refl _); replace hsw := Nat.le_trans hsw hb54.size
            refine x_tn ?_
            refine x_condF f rfl ?_
            refine wp_skip ?_
            refine x_bn ?_
            refine x_tn ?_
            refine sx_list ?_
            refine l_do f rfl rfl rfl (y_move rfl rfl) ?_; clear f A; intro A f
            refine l_do f rfl rfl rfl (y_add rfl rfl rfl rfl (by omega)) ?_; clear f A; intro A f
            refine l_do f rfl rfl rfl (y_assign rfl rfl) ?_; clear f A; intro A f
            refine wpList_nil ?_
            refine x_tn ?_
            exact ⟨nN2 - (q + 1), by omega, q + 1, rfl, by omega, f.sub ⟨rfl, rfl, rfl, rfl, rfl, rfl, rfl, trivial⟩, B0, rb1, rb11, ownN, ownP, hsw, fun p hp => by by_cases e : p = q; (subst e; exact c51); exact hnq p (by omega)⟩
          ·clear f A; intro c50 A f
           refine wpList_nil ?_
           refine x_tn ?_
           refine x_condF f rfl ?_
           refine wp_exit ?_
           refine x_te ?_
           refine x_te ?_
           refine x_bh ?_
           refine x_tn ?_
           refine sx_list ?_
           refine l_do f rfl rfl rfl (y_move rfl rfl) ?_; clear f A; intro A f
           refine l_do f rfl rfl rfl (y_field rfl rfl (fo rfl)) ?_; clear f A; intro A f
           refine l_do f rfl rfl rfl (y_load1 rfl rfl (ag rfl) (rowl (rowq rb11) rfl)) ?_; clear f A; intro A f
           refine l_do f rfl rfl rfl (y_move rfl rfl) ?_; clear f A; intro A f
           refine l_do f rfl rfl rfl (y_index rfl rfl (by first | rfl | assumption) rfl (es rfl) (by omega)) ?_; clear f A; intro A f
           refine l_do f rfl rfl rfl (y_load1 rfl rfl (ag rfl) (by first | assumption | exact St.q c0a B0 | exact St.q c1a B0 | exact St.q c2a B0 | exact St.q c3a B0 | exact St.q c4a B0 | exact St.q c5a B0 | exact St.q q1 B0)) ?_; clear f A; intro A f
           have hnm : sa ∉ upTo Ch.names x.cs k ++ nma.take j := fun h => by
            obtain ⟨i, hi, he⟩ := List.getElem_of_mem h
            exact hnq i (by omega) (by rw [List.getD_eq_getElem?_getD, List.getElem?_eq_getElem hi]; exact he)
           refine l_bs1 f rfl rfl rfl rfl rfl (bs_str1 sa) ?_; clear f A; intro g56 W57 eg56 hb58 rg56 A f
           replace B0 := Below.next B0 hb58; replace rb1 := row_next rb1 hb58; replace rb11 := row_next rb11 hb58; replace ownN := owns_below ownN hb58 (Nat.le_refl _); replace ownP := owns_below ownP hb58 (Nat.le_refl _); replace hsw := Nat.le_trans hsw hb58.size
           refine l_ap1 f rfl rfl rfl rfl rfl rfl Try.underlying42 info_str rfl ownN rg56 rfl (by omega) hsw ?_; clear f A; intro g59 k60 W61 ownN2 hb62 hgn A f
           have hlq : ∀ q ∈ blkA so, q < W57.heap.size := fun q hq => (owns_lt ownP hq).2
           have lb6 := row_lt rb11
           have hn63 := new_not hgn hn62 lb6
           have hds3 := new_dis hgn hds2 hlq
           replace rb1 := hb62.row rb1 (fun h => by have := hgN _ h; omega); replace rb11 := hb62.row rb11 hn62; replace ownP := hb62.owns ownP hds2; replace ownN := ownN2; replace hsw := Nat.le_trans hsw hb62.size; replace B0 := hb62.below B0 B0.size (fun q hq => by have := hgN q hq; have := z_B0_b1; omega)
           refine l_do f rfl rfl rfl (y_assign rfl rfl) ?_; clear f A; intro A f
           refine wpList_nil ?_
           refine x_bn ?_
           refine x_tn ?_
           refine sx_list ?_
           refine l_do f rfl rfl rfl (y_move rfl rfl) ?_; clear f A; intro A f
           refine l_do f rfl rfl rfl (y_add rfl rfl rfl rfl (by omega)) ?_; clear f A; intro A f
           refine l_do f rfl rfl rfl (y_assign rfl rfl) ?_; clear f A; intro A f
           refine wpList_nil ?_
           refine x_tn ?_
           exact ⟨nna - (j + 1), by omega, j + 1, nN2 + 1, some ⟨g59, 0, none⟩, k60, rfl, by omega, f.sub ⟨rfl, rfl, rfl, rfl, rfl, rfl, trivial⟩, B0, rb1, rb11, by rw [upTo_step Ch.names x.cs default hS.out (show j < nma.length by omega)]; rw [show svals ((upTo Ch.names x.cs k ++ nma.take j) ++ [sa]) = svals (upTo Ch.names x.cs k ++ nma.take j) ++ [.string sa] by rw [svals, List.map_append]; rfl]; exact ownN, ownP, hds3, hsw, hn63, hni.put hS.out hok (last := if 0 < j then nma.getD (j - 1) default else ⟨#[]⟩) (fun h => by rw [if_pos h]) hle, upTo_more Ch.names x.cs default hS.out (by omega) hnd2 hnm⟩
        ·clear f A; intro c26 A f
         refine q_do f rfl rfl rfl (y_not rfl rfl) ?_; clear f A; intro A f
         refine q_do f rfl rfl rfl (y_move rfl rfl) ?_; clear f A; intro A f
         refine q_no f rfl rfl rfl ?_; clear f A; intro A f
         refine q_no f rfl rfl rfl ?_; clear f A; intro A f
         refine q_no f rfl rfl rfl ?_; clear f A; intro A f
         refine q_no f rfl rfl rfl ?_; clear f A; intro A f
         refine q_no f rfl rfl rfl ?_; clear f A; intro A f
         refine q_no f rfl rfl rfl ?_; clear f A; intro A f
         refine q_no f rfl rfl rfl ?_; clear f A; intro A f
         refine q_no f rfl rfl rfl ?_; clear f A; intro A f
         refine q_no f rfl rfl rfl ?_; clear f A; intro A f
         refine q_no f rfl rfl rfl ?_; clear f A; intro A f
         refine q_no f rfl rfl rfl ?_; clear f A; intro A f
         refine q_no f rfl rfl rfl ?_; clear f A; intro A f
         refine q_no f rfl rfl rfl ?_; clear f A; intro A f
         refine q_no f rfl rfl rfl ?_; clear f A; intro A f
         refine q_no f rfl rfl rfl ?_; clear f A; intro A f
         refine q_no f rfl rfl rfl ?_; clear f A; intro A f
         refine q_do f rfl rfl rfl (y_pick rfl rfl rfl) ?_; clear f A; intro A f
         refine wpQuiet_nil ?_; intro W64 hb63; replace B0 := Below.next B0 hb63; replace rb1 := row_next rb1 hb63; replace rb11 := row_next rb11 hb63; replace ownN := owns_below ownN hb63 (Nat.le_refl _); replace ownP := owns_below ownP hb63 (Nat.le_refl _); replace hsw := Nat.le_trans hsw hb63.size
         refine x_tn ?_
         refine x_condT f rfl ?_
         refine wp_seq ?_
         refine sx_list ?_
         refine l_do f rfl rfl rfl (y_assign rfl rfl) ?_; clear f A; intro A f
         refine wpList_nil ?_
         refine x_tn ?_
         refine wp_ret ?_
         refine x_tr ?_
         refine x_br ?_
         refine x_tr ?_
         refine x_tr ?_
         refine x_br ?_
         refine x_tr ?_
         refine x_br ?_
         refine x_tr ?_
         refine x_tr ?_
         refine x_br ?_
         refine x_tr ?_
         refine x_ret1 f rfl rfl ?_
         exact ⟨retB_false (fun hh => c26 (by have h1 := (namesMay_at hh.names (show k < x.cs.length by omega)).1; rw [hXa.out] at h1; rw [← hS.out]; exact h1 _ (getD_mem (d := (default : ByteArray)) (show j < nma.length by omega)))), B0⟩
       ·clear f A; intro c25 A f
        refine wpList_nil ?_
        refine x_tn ?_
        refine x_condF f rfl ?_
        refine wp_exit ?_
        refine x_te ?_
        refine x_te ?_
        refine x_bh ?_
        refine x_tn ?_
        refine wp_seq ?_
        refine sx_list ?_
        refine l_do f rfl rfl rfl (y_assign rfl rfl) ?_; clear f A; intro A f
        refine wpList_nil ?_
        refine x_tn ?_
        refine wp_block ?_
        have hje : nna = j := by omega
        subst hje
        have hte : nma.take nna = nma := List.take_of_length_le (by omega)
        rw [hte] at ownN hnd2
        have hnt2 : NTo x.cs (k + 1) := hnt.put (by rw [hXa.out]) (by rw [l1]; exact hni)
        refine x_loop (fun n A W => ∃ (j nP2 : Nat) (so2 : Option Addr) (sc2 : Nat), n = sna - j ∧ j ≤ sna ∧ Fr A 147 [(1, .pointer (some ⟨b1, 0, none⟩)), (5, .int .i64 (k : Nat)), (6, .pointer (some ⟨b11, 0, none⟩)), (3, .slice no2 nN2 nc2), (4, .slice so2 nP2 sc2), (10, .int .i64 (j : Nat))] ∧ Below w.heap.size w W ∧ W.heap[b1]? = some (.cells #[.slice x.wo x.wn x.wc, .slice x.h.zo x.h.zn x.h.zc, .slice x.h.mo x.h.mn x.h.mc, .int .i64 x.h.cpus, .slice x.h.lo x.h.ln x.h.lc, .slice x.h.vo x.h.vn x.h.vc, .slice x.co x.cn x.cc] 30 (0, 0)) ∧ W.heap[b11]? = some (.cells #[.slice noa nna nca, .int .i64 sza, .int .i64 pra, .int .i64 ora, .slice soa sna sca, .slice aoa ana aka] 45 (0, 0)) ∧ W.ownsRow sb 9 1 (.slice no2 nN2 nc2) nN2 (svals (upTo Ch.names x.cs k ++ nma)) ∧ W.ownsRow sb 3 1 (.slice so2 nP2 sc2) nP2 (vals (upTo pgs x.cs k ++ (sla.map (·.a)).take j)) ∧ Dis no2 so2 ∧ sb ≤ W.heap.size ∧ b11 ∉ blkA so2 ∧ (upTo pgs x.cs k ++ (sla.map (·.a)).take j).Nodup) (n0 := sna) (⟨0, nP, so, sc, rfl, Nat.zero_le _, f.sub ⟨rfl, rfl, rfl, rfl, rfl, rfl, trivial⟩, B0, rb1, rb11, ownN, by rw [List.take_zero, List.append_nil]; exact ownP, hds2, hsw, hp6, by rw [List.take_zero, List.append_nil]; exact hnp⟩) ?_
        clear f A
        clear B0 rb1 rb11 ownN ownP hds2 hsw
        rintro n3 A W65 ⟨j, nP2, so2, sc2, hn3, hj, f, B0, rb1, rb11, ownN, ownP, hds2, hsw, hp62, hnp2⟩
        have hxl : (upTo pgs x.cs k ++ (sla.map (·.a)).take j).length = nP2 := by have := ownP.1; rw [length_vals] at this; omega
        have hfw := pages_few hnp2 (pages_in hm (by omega) hch hcm (by rw [hXa.out]))
        have hgP : ∀ q ∈ blkA so2, sb ≤ q := fun q hq => (owns_lt ownP hq).1
        refine wp_seq ?_
        refine wp_seq ?_
        refine sx_list ?_
        refine l_do f rfl rfl rfl (y_move rfl rfl) ?_; clear f A; intro A f
        refine l_do f rfl rfl rfl (y_field rfl rfl (fo rfl)) ?_; clear f A; intro A f
        refine l_do f rfl rfl rfl (y_load1 rfl rfl (ag rfl) (rowl (rowq rb11) rfl)) ?_; clear f A; intro A f
        refine l_do f rfl rfl rfl (y_len rfl rfl (sl rfl)) ?_; clear f A; intro A f
        refine l_if _ f rfl rfl rfl (y_lss rfl rfl rfl) ?_ ?_
        ·clear f A; intro c66 A f
         refine wpList_nil ?_
         refine x_tn ?_
         refine x_condT f rfl ?_
         refine wp_skip ?_
         refine x_tn ?_
         refine wp_seq ?_
         refine wp_block ?_
         refine wp_seq ?_
         refine wp_seq ?_
         refine sx_list ?_
         refine l_do f rfl rfl rfl (y_assign rfl rfl) ?_; clear f A; intro A f
         refine wpList_nil ?_
         refine x_tn ?_
         refine wp_block ?_
         obtain ⟨ge, oe, bae, boe, bte, hae, c0e, c1e, c2e, hXe⟩ := hBa.at_.at (j) (by have := hBa.len; omega)
         replace c0e := St.of c0e; replace c1e := St.of c1e; replace c2e := St.of c2e
         have hpj := pages_at (show j < sla.length by omega) hXe.out
         refine x_loop (fun n A W => ∃ q : Nat, n = nP2 - q ∧ q ≤ nP2 ∧ Fr A 147 [(1, .pointer (some ⟨b1, 0, none⟩)), (5, .int .i64 (k : Nat)), (6, .pointer (some ⟨b11, 0, none⟩)), (3, .slice no2 nN2 nc2), (4, .slice so2 nP2 sc2), (10, .int .i64 (j : Nat)), (11, .int .i64 (q : Nat))] ∧ Below w.heap.size w W ∧ W.heap[b1]? = some (.cells #[.slice x.wo x.wn x.wc, .slice x.h.zo x.h.zn x.h.zc, .slice x.h.mo x.h.mn x.h.mc, .int .i64 x.h.cpus, .slice x.h.lo x.h.ln x.h.lc, .slice x.h.vo x.h.vn x.h.vc, .slice x.co x.cn x.cc] 30 (0, 0)) ∧ W.heap[b11]? = some (.cells #[.slice noa nna nca, .int .i64 sza, .int .i64 pra, .int .i64 ora, .slice soa sna sca, .slice aoa ana aka] 45 (0, 0)) ∧ W.ownsRow sb 9 1 (.slice no2 nN2 nc2) nN2 (svals (upTo Ch.names x.cs k ++ nma)) ∧ W.ownsRow sb 3 1 (.slice so2 nP2 sc2) nP2 (vals (upTo pgs x.cs k ++ (sla.map (·.a)).take j)) ∧ sb ≤ W.heap.size ∧ ∀ p, p < q → (upTo pgs x.cs k ++ (sla.map (·.a)).take j).getD p 0 ≠ bae) (n0 := nP2) (⟨0, rfl, Nat.zero_le _, f.sub ⟨rfl, rfl, rfl, rfl, rfl, rfl, rfl, trivial⟩, B0, rb1, rb11, ownN, ownP, hsw, fun p hp => absurd hp (Nat.not_lt_zero p)⟩) ?_
         clear f A
         clear B0 rb1 rb11 ownN ownP hsw
         rintro n4 A W67 ⟨q, hn4, hq4, f, B0, rb1, rb11, ownN, ownP, hsw, hpq⟩
         have BW := Below.refl W67.heap.size W67
         refine wp_seq ?_
         refine wp_seq ?_
         refine sx_list ?_
         refine l_do f rfl rfl rfl (y_move rfl rfl) ?_; clear f A; intro A f
         refine l_do f rfl rfl rfl (y_move rfl rfl) ?_; clear f A; intro A f
         refine l_do f rfl rfl rfl (y_len rfl rfl (sl rfl)) ?_; clear f A; intro A f
         refine l_if _ f rfl rfl rfl (y_lss rfl rfl rfl) ?_ ?_
         ·clear f A; intro c68 A f
          refine wpList_nil ?_
          refine x_tn ?_
          refine x_condT f rfl ?_
          refine wp_skip ?_
          refine x_tn ?_
          refine wp_seq ?_
          refine wp_block ?_
          refine wp_seq ?_
          refine sx_quiet (by kernel_rfl) (by kernel_rfl) ?_
          refine q_do f rfl rfl rfl (y_move rfl rfl) ?_; clear f A; intro A f
          refine q_do f rfl rfl rfl (y_move rfl rfl) ?_; clear f A; intro A f
          obtain ⟨gu, ou, vu, hau, c0u, hXu⟩ := (nums_of_owns ownP (by omega)).at_.at (q) (by have := (nums_of_owns ownP (by omega)).len; omega)
          replace c0u := St.of c0u
          rw [show ou + q = ou + q * 1 by omega] at c0u
          refine q_do f rfl rfl rfl (y_index rfl rfl (by first | rfl | assumption) rfl (es rfl) (by omega)) ?_; clear f A; intro A f
          refine q_do f rfl rfl rfl (y_load1 rfl rfl (ag rfl) (by first | assumption | exact St.q c0a B0 | exact St.q c1a B0 | exact St.q c2a B0 | exact St.q c3a B0 | exact St.q c4a B0 | exact St.q c5a B0 | exact St.q c0e B0 | exact St.q c1e B0 | exact St.q c2e B0 | exact St.q c0u BW)) ?_; clear f A; intro A f
          refine q_do f rfl rfl rfl (y_field rfl rfl (fo rfl)) ?_; clear f A; intro A f
          refine q_do f rfl rfl rfl (y_load1 rfl rfl (ag rfl) (rowl (rowq rb11) rfl)) ?_; clear f A; intro A f
          refine q_do f rfl rfl rfl (y_move rfl rfl) ?_; clear f A; intro A f
          refine q_do f rfl rfl rfl (y_index rfl rfl (by first | rfl | assumption) rfl (es rfl) (by omega)) ?_; clear f A; intro A f
          refine q_do f rfl rfl rfl (y_field rfl rfl (fo rfl)) ?_; clear f A; intro A f
          refine q_do f rfl rfl rfl (y_load1 rfl rfl (ag rfl) (by first | assumption | exact St.q c0a B0 | exact St.q c1a B0 | exact St.q c2a B0 | exact St.q c3a B0 | exact St.q c4a B0 | exact St.q c5a B0 | exact St.q c0e B0 | exact St.q c1e B0 | exact St.q c2e B0 | exact St.q c0u BW)) ?_; clear f A; intro A f
          refine q_if _ f rfl rfl rfl (y_eql rfl rfl rfl) ?_ ?_
          ·clear f A; intro c69 A f
           refine wpQuiet_nil ?_; intro W71 hb70; replace B0 := Below.next B0 hb70; replace BW := Below.next BW hb70; replace rb1 := row_next rb1 hb70; replace rb11 := row_next rb11 hb70; replace ownN := owns_below ownN hb70 (Nat.le_refl _); replace ownP := owns_below ownP hb70 (Nat.le_refl _); replace hsw := Nat.le_trans hsw hb70.size
           refine x_tn ?_
           refine x_condT f rfl ?_
           refine wp_seq ?_
           refine sx_list ?_
           refine l_do f rfl rfl rfl (y_assign rfl rfl) ?_; clear f A; intro A f
           refine wpList_nil ?_
           refine x_tn ?_
           refine wp_ret ?_
           refine x_br ?_
           refine x_tr ?_
           refine x_tr ?_
           refine x_br ?_
           refine x_tr ?_
           refine x_br ?_
           refine x_tr ?_
           refine x_tr ?_
           refine x_br ?_
           refine x_br ?_
           refine x_tr ?_
           refine x_tr ?_
           refine x_br ?_
           refine x_tr ?_
           refine x_ret1 f rfl rfl ?_
           exact ⟨retB_false (fun hh => upTo_twice pgs x.cs 0 (show k < x.cs.length by omega) (by rw [hXa.out]) hpj (by rw [List.length_map]; omega) hh.unlike.at_ (by rw [← c69, ← hXu.out]; exact getD_mem (d := (0 : Int)) (by omega))), B0⟩
          ·clear f A; intro c69 A f
           refine wpQuiet_nil ?_; intro W73 hb72; replace B0 := Below.next B0 hb72; replace BW := Below.next BW hb72; replace rb1 := row_next rb1 hb72; replace rb11 := row_next rb11 hb72; replace ownN := owns_below ownN hb72 (Nat.le_refl _); replace ownP := owns_below ownP hb72 (Nat.le_refl _); replace hsw := Nat.le_trans hsw hb72.size
           refine x_tn ?_
           refine x_condF f rfl ?_
           refine wp_skip ?_
           refine x_bn ?_
           refine x_tn ?_
           refine sx_list ?_
           refine l_do f rfl rfl rfl (y_move rfl rfl) ?_; clear f A; intro A f
           refine l_do f rfl rfl rfl (y_add rfl rfl rfl rfl (by omega)) ?_; clear f A; intro A f
           refine l_do f rfl rfl rfl (y_assign rfl rfl) ?_; clear f A; intro A f
           refine wpList_nil ?_
           refine x_tn ?_
           exact ⟨nP2 - (q + 1), by omega, q + 1, rfl, by omega, f.sub ⟨rfl, rfl, rfl, rfl, rfl, rfl, rfl, trivial⟩, B0, rb1, rb11, ownN, ownP, hsw, fun p hp => by by_cases e : p = q; (subst e; rw [hXu.out]; exact c69); exact hpq p (by omega)⟩
         ·clear f A; intro c68 A f
          refine wpList_nil ?_
          refine x_tn ?_
          refine x_condF f rfl ?_
          refine wp_exit ?_
          refine x_te ?_
          refine x_te ?_
          refine x_bh ?_
          refine x_tn ?_
          refine sx_list ?_
          refine l_do f rfl rfl rfl (y_move rfl rfl) ?_; clear f A; intro A f
          refine l_do f rfl rfl rfl (y_field rfl rfl (fo rfl)) ?_; clear f A; intro A f
          refine l_do f rfl rfl rfl (y_load1 rfl rfl (ag rfl) (rowl (rowq rb11) rfl)) ?_; clear f A; intro A f
          refine l_do f rfl rfl rfl (y_move rfl rfl) ?_; clear f A; intro A f
          refine l_do f rfl rfl rfl (y_index rfl rfl (by first | rfl | assumption) rfl (es rfl) (by omega)) ?_; clear f A; intro A f
          refine l_do f rfl rfl rfl (y_field rfl rfl (fo rfl)) ?_; clear f A; intro A f
          refine l_do f rfl rfl rfl (y_load1 rfl rfl (ag rfl) (by first | assumption | exact St.q c0a B0 | exact St.q c1a B0 | exact St.q c2a B0 | exact St.q c3a B0 | exact St.q c4a B0 | exact St.q c5a B0 | exact St.q c0e B0 | exact St.q c1e B0 | exact St.q c2e B0)) ?_; clear f A; intro A f
          have hpm : bae ∉ upTo pgs x.cs k ++ (sla.map (·.a)).take j := fun h => by
           obtain ⟨i, hi, he⟩ := List.getElem_of_mem h
           exact hpq i (by omega) (by rw [List.getD_eq_getElem?_getD, List.getElem?_eq_getElem hi]; exact he)
          refine l_bs1 f rfl rfl rfl rfl rfl (bs_int1 bae) ?_; clear f A; intro g74 W75 eg74 hb76 rg74 A f
          replace B0 := Below.next B0 hb76; replace rb1 := row_next rb1 hb76; replace rb11 := row_next rb11 hb76; replace ownN := owns_below ownN hb76 (Nat.le_refl _); replace ownP := owns_below ownP hb76 (Nat.le_refl _); replace hsw := Nat.le_trans hsw hb76.size
          refine l_ap1 f rfl rfl rfl rfl rfl rfl Try.underlying22 info_int rfl ownP rg74 rfl (by omega) hsw ?_; clear f A; intro g77 k78 W79 ownP2 hb80 hgn A f
          have hlq : ∀ q ∈ blkA no2, q < W75.heap.size := fun q hq => (owns_lt ownN hq).2
          have lb6 := row_lt rb11
          have hp63 := new_not hgn hp62 lb6
          have hds3 := (new_dis hgn hds2.symm hlq).symm
          replace rb1 := hb80.row rb1 (fun h => by have := hgP _ h; omega); replace rb11 := hb80.row rb11 hp62; replace ownN := hb80.owns ownN hds2.symm; replace ownP := ownP2; replace hsw := Nat.le_trans hsw hb80.size; replace B0 := hb80.below B0 B0.size (fun q hq => by have := hgP q hq; have := z_B0_b1; omega)
          refine l_do f rfl rfl rfl (y_assign rfl rfl) ?_; clear f A; intro A f
          refine wpList_nil ?_
          refine x_bn ?_
          refine x_tn ?_
          refine sx_list ?_
          refine l_do f rfl rfl rfl (y_move rfl rfl) ?_; clear f A; intro A f
          refine l_do f rfl rfl rfl (y_add rfl rfl rfl rfl (by omega)) ?_; clear f A; intro A f
          refine l_do f rfl rfl rfl (y_assign rfl rfl) ?_; clear f A; intro A f
          refine wpList_nil ?_
          refine x_tn ?_
          exact ⟨sna - (j + 1), by omega, j + 1, nP2 + 1, some ⟨g77, 0, none⟩, k78, rfl, by omega, f.sub ⟨rfl, rfl, rfl, rfl, rfl, rfl, trivial⟩, B0, rb1, rb11, ownN, by rw [upTo_step pgs x.cs 0 hpj (show j < (sla.map (·.a)).length by rw [List.length_map]; omega), vals_append]; exact ownP, hds3, hsw, hp63, upTo_more pgs x.cs 0 hpj (by rw [List.length_map]; omega) hnp2 hpm⟩
        ·clear f A; intro c66 A f
         refine wpList_nil ?_
         refine x_tn ?_
         refine x_condF f rfl ?_
         refine wp_exit ?_
         refine x_te ?_
         refine x_te ?_
         refine x_bh ?_
         refine x_bn ?_
         refine x_tn ?_
         refine sx_list ?_
         refine l_do f rfl rfl rfl (y_move rfl rfl) ?_; clear f A; intro A f
         refine l_do f rfl rfl rfl (y_add rfl rfl rfl rfl (by omega)) ?_; clear f A; intro A f
         refine l_do f rfl rfl rfl (y_assign rfl rfl) ?_; clear f A; intro A f
         refine wpList_nil ?_
         refine x_tn ?_
         have hje : j = sna := by omega
         have hte : (sla.map (·.a)).take j = sla.map (·.a) := List.take_of_length_le (by rw [List.length_map]; omega)
         have hue : upTo pgs x.cs (k + 1) = upTo pgs x.cs k ++ sla.map (·.a) := by rw [upTo_succ pgs x.cs (by omega), hXa.out]
         have hun : upTo Ch.names x.cs (k + 1) = upTo Ch.names x.cs k ++ nma := by rw [upTo_succ Ch.names x.cs (by omega), hXa.out]
         have hus : upTo szs x.cs (k + 1) = upTo szs x.cs k ++ [sza] := by rw [upTo_succ szs x.cs (by omega), hXa.out]
         exact ⟨x.cn - (k + 1), by omega, k + 1, nN2, nP2, no2, so2, nc2, sc2, rfl, by omega, f.sub ⟨rfl, rfl, rfl, rfl, trivial⟩, B0, rb1, by rw [hun]; exact ownN, by rw [hue, ← hte]; exact ownP, hds2, hsw, fun i hi => by (by_cases e : i = k; (rw [e]; exact hcm); exact hch i (by omega)), by rw [hus]; exact nodup_snoc hns hsn, hnt2, by rw [hun]; exact hnd2, by rw [hue, ← hte]; exact hnp2⟩
     ·clear f A; intro c14 W16 hb15 A f
      replace B0 := Below.next B0 hb15; replace rb1 := row_next rb1 hb15; replace rb11 := row_next rb11 hb15; replace ownN := owns_below ownN hb15 (Nat.le_refl _); replace ownP := owns_below ownP hb15 (Nat.le_refl _); replace hsw := Nat.le_trans hsw hb15.size
      refine l_do f rfl rfl rfl (y_not rfl rfl) ?_; clear f A; intro A f
      refine wpList_nil ?_
      refine x_tn ?_
      refine x_condT f rfl ?_
      refine wp_seq ?_
      refine sx_list ?_
      refine l_do f rfl rfl rfl (y_assign rfl rfl) ?_; clear f A; intro A f
      refine wpList_nil ?_
      refine x_tn ?_
      refine wp_ret ?_
      refine x_tr ?_
      refine x_br ?_
      refine x_tr ?_
      refine x_tr ?_
      refine x_br ?_
      refine x_tr ?_
      refine x_ret1 f rfl rfl ?_
      exact ⟨retB_false (fun h => c14 (by have := h.each _ (List.mem_map_of_mem (getD_mem (d := Cc.zero) (show k < x.cs.length by omega))); rwa [hXa.out] at this)), B0⟩
    ·clear f A; intro c10 A f
     refine wpList_nil ?_
     refine x_tn ?_
     refine x_condF f rfl ?_
     refine wp_exit ?_
     refine x_te ?_
     refine x_te ?_
     refine x_bh ?_
     refine x_tn ?_
     refine wp_seq ?_
     refine sx_list ?_
     refine l_do f rfl rfl rfl (y_assign rfl rfl) ?_; clear f A; intro A f
     refine wpList_nil ?_
     refine x_tn ?_
     refine wp_ret ?_
     refine x_ret1 f rfl rfl ?_
     have hke : k = x.cn := by omega
     subst hke
     exact ⟨retB_true ⟨show x.words.length = 4096 by have h2 := hx.words.len; omega, hm, show (x.cs.map (·.c)).length ≤ 20 by rw [List.length_map]; omega, fun c hc => by
      obtain ⟨y, hy, rfl⟩ := List.mem_map.1 hc
      obtain ⟨i, hi, rfl⟩ := List.getElem_of_mem hy
      have := hch i (by omega)
      rwa [List.getD_eq_getElem?_getD, List.getElem?_eq_getElem hi] at this, namesMay_of hcl hnt hnd, unlike_of hcl hns hnp⟩, B0⟩
  ·clear f A; intro c5 W7 hb6 A f
   replace B0 := Below.next B0 hb6; replace rb1 := row_next rb1 hb6
   refine l_do f rfl rfl rfl (y_not rfl rfl) ?_; clear f A; intro A f
   refine l_do f rfl rfl rfl (y_pick rfl rfl rfl) ?_; clear f A; intro A f
   refine l_do f rfl rfl rfl (y_move rfl rfl) ?_; clear f A; intro A f
   refine l_no f rfl rfl rfl ?_; clear f A; intro A f
   refine l_no f rfl rfl rfl ?_; clear f A; intro A f
   refine l_no f rfl rfl rfl ?_; clear f A; intro A f
   refine l_no f rfl rfl rfl ?_; clear f A; intro A f
   refine l_do f rfl rfl rfl (y_pick rfl rfl rfl) ?_; clear f A; intro A f
   refine wpList_nil ?_
   refine x_tn ?_
   refine x_condT f rfl ?_
   refine wp_seq ?_
   refine sx_list ?_
   refine l_do f rfl rfl rfl (y_assign rfl rfl) ?_; clear f A; intro A f
   refine wpList_nil ?_
   refine x_tn ?_
   refine wp_ret ?_
   refine x_tr ?_
   refine x_ret1 f rfl rfl ?_
   exact ⟨retB_false (fun h => c5 h.heap), B0⟩
def cacheV (x : Cc) : Value := .agg #[.slice x.no x.nn x.nc, .int .i64 x.c.size, .int .i64 x.c.per, .int .i64 x.c.order, .slice x.so x.sn x.sc, .slice x.ao x.an x.ac]
def cacheFound (e : Ending) (n : Nat) (l : List Cc) (g : Cc → Prop) : Prop :=
 (∃ k : Nat, k < n ∧ e = .returned (.int .i64 (k : Nat)) ∧ g (l.getD k .zero) ∧ ∀ j, j < k → ¬ g (l.getD j .zero)) ∨ (e = .returned (.int .i64 (-1)) ∧ ∀ j, j < n → ¬ g (l.getD j .zero))
theorem cacheIndex_any (w : World) (F : Nat) (cs : List Value) (hp : Plain Try.prog F) (ao : Option Addr) (n cap : Nat) (l : List Cc) (g : Cc → Prop) (h : Chs w ao n l) (hc : ∀ i, i < n → ∀ W : World, Below w.heap.size w W → Calls Try.prog F (List.toArray ([cacheV (l.getD i .zero)] ++ cs)) W fun e W' => RetB e (g (l.getD i .zero)) ∧ Below W.heap.size W W') :
    Calls Try.prog 61 #[.slice ao n cap, .func (.func F) #[] cs.toArray] w fun e w' => cacheFound e n l g ∧ Below w.heap.size w w' := by
 have hlr := h.reach
 have hll := h.len
 have B0 := Below.refl w.heap.size w
 refine sx_enter (args := [_, _]) 19 Try.func61 rfl rfl rfl ?_
 intro A f
 refine wp_seq ?_
 refine sx_list ?_
 refine l_do f rfl rfl rfl (y_assign rfl rfl) ?_; clear f A; intro A f
 refine wpList_nil ?_
 refine x_tn ?_
 refine wp_seq ?_
 refine wp_seq ?_
 refine sx_list ?_
 refine l_do f rfl rfl rfl (y_move rfl rfl) ?_; clear f A; intro A f
 refine l_do f rfl rfl rfl (y_len rfl rfl (sl rfl)) ?_; clear f A; intro A f
 refine l_do f rfl rfl rfl (y_move rfl rfl) ?_; clear f A; intro A f
 refine wpList_nil ?_
 refine x_tn ?_
 refine wp_block ?_
 refine x_loop (fun m A W => ∃ k : Nat, m = n - k ∧ k ≤ n ∧ Fr A 19 [(0, .slice ao n cap), (1, .func (.func F) #[] cs.toArray), (7, .int .i64 (n : Nat)), (8, .int .i64 (k : Nat))] ∧ Below w.heap.size w W ∧ ∀ j, j < k → ¬ g (l.getD j .zero)) (n0 := n) (⟨0, rfl, Nat.zero_le _, f.sub ⟨rfl, rfl, rfl, rfl, trivial⟩, B0, fun j hj => absurd hj (Nat.not_lt_zero j)⟩) ?_
 clear f A
 clear B0
 rintro m A W1 ⟨k, hn, hk, f, B0, hno⟩
 refine wp_seq ?_
 refine sx_list ?_
 refine l_if _ f rfl rfl rfl (y_lss rfl rfl rfl) ?_ ?_
 ·clear f A; intro c2 A f
  refine wpList_nil ?_
  refine x_tn ?_
  refine wp_seq ?_
  refine x_condT f rfl ?_
  refine wp_skip ?_
  refine x_tn ?_
  refine wp_seq ?_
  refine wp_block ?_
  refine wp_seq ?_
  refine sx_list ?_
  refine l_do f rfl rfl rfl (y_move rfl rfl) ?_; clear f A; intro A f
  refine l_do f rfl rfl rfl (y_assign rfl rfl) ?_; clear f A; intro A f
  refine wpList_nil ?_
  refine x_tn ?_
  refine wp_seq ?_
  refine sx_list ?_
  refine l_do f rfl rfl rfl (y_move rfl rfl) ?_; clear f A; intro A f
  refine l_do f rfl rfl rfl (y_move rfl rfl) ?_; clear f A; intro A f
  refine l_do f rfl rfl rfl (y_move rfl rfl) ?_; clear f A; intro A f
  obtain ⟨ge, oe, nme, sze, pre, ore, sle, ace, noe, nne, nce, soe, sne, sce, aoe, ane, ake, hae, c0e, c1e, c2e, c3e, c4e, c5e, hNe, hBe, hAe, hXe⟩ := h.at k (by omega)
  replace c0e := St.of c0e; replace c1e := St.of c1e; replace c2e := St.of c2e; replace c3e := St.of c3e; replace c4e := St.of c4e; replace c5e := St.of c5e
  refine l_do f rfl rfl rfl (y_index rfl rfl (by first | rfl | assumption) rfl (es rfl) (by omega)) ?_; clear f A; intro A f
  refine l_do f rfl rfl rfl (y_loadN (vs := [_, _, _, _, _, _]) rfl rfl (ag rfl) rfl ⟨(by first | assumption | exact St.q c0e B0 | exact St.q c1e B0 | exact St.q c2e B0 | exact St.q c3e B0 | exact St.q c4e B0 | exact St.q c5e B0), (by first | assumption | exact St.q c0e B0 | exact St.q c1e B0 | exact St.q c2e B0 | exact St.q c3e B0 | exact St.q c4e B0 | exact St.q c5e B0), (by first | assumption | exact St.q c0e B0 | exact St.q c1e B0 | exact St.q c2e B0 | exact St.q c3e B0 | exact St.q c4e B0 | exact St.q c5e B0), (by first | assumption | exact St.q c0e B0 | exact St.q c1e B0 | exact St.q c2e B0 | exact St.q c3e B0 | exact St.q c4e B0 | exact St.q c5e B0), (by first | assumption | exact St.q c0e B0 | exact St.q c1e B0 | exact St.q c2e B0 | exact St.q c3e B0 | exact St.q c4e B0 | exact St.q c5e B0), (by first | assumption | exact St.q c0e B0 | exact St.q c1e B0 | exact St.q c2e B0 | exact St.q c3e B0 | exact St.q c4e B0 | exact St.q c5e B0), trivial⟩) ?_; clear f A; intro A f
  have hcl := hc k (by omega) _ B0
  rw [hXe.out] at hcl
  refine l_callB _ f rfl rfl rfl (IsCall.mk' (cap := cs) rfl rfl rfl) hp hcl ?_ ?_
  ·clear f A; intro hng W4 hb3 A f
   rw [← hXe.out] at hng
   replace B0 := Below.next B0 hb3
   refine wpList_nil ?_
   refine x_tn ?_
   refine x_condT f rfl ?_
   refine wp_seq ?_
   refine sx_list ?_
   refine l_do f rfl rfl rfl (y_move rfl rfl) ?_; clear f A; intro A f
   refine l_do f rfl rfl rfl (y_assign rfl rfl) ?_; clear f A; intro A f
   refine wpList_nil ?_
   refine x_tn ?_
   refine wp_ret ?_
   refine x_br ?_
   refine x_tr ?_
   refine x_tr ?_
   refine x_br ?_
   refine x_tr ?_
   refine x_ret1 f rfl rfl ?_
   exact ⟨.inl ⟨k, by omega, rfl, hng, hno⟩, B0⟩
  ·clear f A; intro hng W4 hb3 A f
   rw [← hXe.out] at hng
   replace B0 := Below.next B0 hb3
   refine wpList_nil ?_
   refine x_tn ?_
   refine x_condF f rfl ?_
   refine wp_skip ?_
   refine x_bn ?_
   refine x_tn ?_
   refine sx_list ?_
   refine l_do f rfl rfl rfl (y_add rfl rfl rfl rfl (by omega)) ?_; clear f A; intro A f
   refine l_do f rfl rfl rfl (y_move rfl rfl) ?_; clear f A; intro A f
   refine wpList_nil ?_
   refine x_tn ?_
   exact ⟨n - (k + 1), by omega, k + 1, rfl, by omega, f.sub ⟨rfl, rfl, rfl, rfl, trivial⟩, B0, fun j hj => by by_cases e : j = k; (subst e; exact hng); exact hno j (by omega)⟩
 ·clear f A; intro c2 A f
  refine wpList_nil ?_
  refine x_tn ?_
  refine wp_seq ?_
  refine x_condF f rfl ?_
  refine wp_exit ?_
  refine x_te ?_
  refine x_te ?_
  refine x_bh ?_
  refine x_tn ?_
  refine wp_seq ?_
  refine sx_list ?_
  refine l_do f rfl rfl rfl (y_assign rfl rfl) ?_; clear f A; intro A f
  refine wpList_nil ?_
  refine x_tn ?_
  refine wp_ret ?_
  refine x_ret1 f rfl rfl ?_
  exact ⟨.inr ⟨rfl, fun j hj => hno j (by omega)⟩, B0⟩
theorem cacheContains_any (w : World) (F : Nat) (cs : List Value) (hp : Plain Try.prog F) (ao : Option Addr) (n cap : Nat) (l : List Cc) (g : Cc → Prop) (h : Chs w ao n l) (hc : ∀ i, i < n → ∀ W : World, Below w.heap.size w W → Calls Try.prog F (List.toArray ([cacheV (l.getD i .zero)] ++ cs)) W fun e W' => RetB e (g (l.getD i .zero)) ∧ Below W.heap.size W W') :
    Calls Try.prog 32 #[.slice ao n cap, .func (.func F) #[] cs.toArray] w fun e w' => RetB e (∃ k, k < n ∧ g (l.getD k .zero)) ∧ Below w.heap.size w w' := by
 have B0 := Below.refl w.heap.size w
 refine sx_enter (args := [_, _]) 9 Try.func32 rfl rfl rfl ?_
 intro A f
 refine wp_seq ?_
 refine sx_list ?_
 refine l_do f rfl rfl rfl (y_assign rfl rfl) ?_; clear f A; intro A f
 refine wpList_nil ?_
 refine x_tn ?_
 refine wp_seq ?_
 refine sx_list ?_
 refine l_do f rfl rfl rfl (y_move rfl rfl) ?_; clear f A; intro A f
 refine l_do f rfl rfl rfl (y_move rfl rfl) ?_; clear f A; intro A f
 refine l_call f rfl rfl rfl (IsCall.mk' (cap := []) rfl rfl rfl) (pl rfl) (cacheIndex_any _ F cs hp ao n cap l g h hc) ?_; clear f A; rintro _ W1 ⟨hF, hb2⟩
 rcases hF with ⟨k, hk, rfl, hg, -⟩ | ⟨rfl, hg⟩
 ·refine ⟨_, rfl, ?_⟩
  intro A f
  replace B0 := Below.next B0 hb2
  refine l_if _ f rfl rfl rfl (y_geq rfl rfl rfl) ?_ ?_
  ·clear f A; intro c3 A f
   refine l_do f rfl rfl rfl (y_assign rfl rfl) ?_; clear f A; intro A f
   refine wpList_nil ?_
   refine x_tn ?_
   refine wp_ret ?_
   refine x_ret1 f rfl rfl ?_
   exact ⟨retB_true ⟨k, hk, hg⟩, B0⟩
  ·intro c3; exfalso; omega
 ·refine ⟨_, rfl, ?_⟩
  intro A f
  replace B0 := Below.next B0 hb2
  refine l_if _ f rfl rfl rfl (y_geq rfl rfl rfl) ?_ ?_
  ·intro c4; exfalso; omega
  ·clear f A; intro c4 A f
   refine l_do f rfl rfl rfl (y_assign rfl rfl) ?_; clear f A; intro A f
   refine wpList_nil ?_
   refine x_tn ?_
   refine wp_ret ?_
   refine x_ret1 f rfl rfl ?_
   exact ⟨retB_false (fun ⟨k, hk, h⟩ => hg k hk h), B0⟩
theorem lay_c (w : World) (s : Int) : Calls Try.prog 62 #[.int .i64 s] w fun e w' => (((1 ≤ s ∧ s ≤ 64) ∧ e = .returned (.tuple #[.int .i64 (layO s), .int .i64 (layN s), .int .i64 0])) ∨ (¬ (1 ≤ s ∧ s ≤ 64) ∧ e = .returned (.tuple #[.int .i64 0, .int .i64 0, .int .i64 1]))) ∧ Below w.heap.size w w' := by
 by_cases h : 1 ≤ s ∧ s ≤ 64
 ·exact (slLayout_ok s h.1 h.2 w).mono fun _ _ ⟨h1, d, h2⟩ => ⟨.inl ⟨h, h1⟩, by rw [h2]; exact below_drewN (Below.refl _ _) d⟩
 ·exact (slLayout_no s h w).mono fun _ _ ⟨h1, h2⟩ => ⟨.inr ⟨h, h1⟩, by rw [← h2]; exact Below.refl _ _⟩
theorem slCacheMay_any (w : World) (x : Sy) (c : Cc) (hx : x.At w) (hc : c.At w) (hm : HMay x.h.hp) (hwf : ∀ v ∈ c.c.act, (Lit.int .i64 v).wf = true) :
    Calls Try.prog 34 #[.agg #[.slice x.wo x.wn x.wc, .slice x.h.zo x.h.zn x.h.zc, .slice x.h.mo x.h.mn x.h.mc, .int .i64 x.h.cpus, .slice x.h.lo x.h.ln x.h.lc, .slice x.h.vo x.h.vn x.h.vc, .slice x.co x.cn x.cc], .agg #[.slice c.no c.nn c.nc, .int .i64 c.c.size, .int .i64 c.c.per, .int .i64 c.c.order, .slice c.so c.sn c.sc, .slice c.ao c.an c.ac]] w fun e w' => RetB e (ChMay x.words x.h.hp c.c) ∧ Below w.heap.size w w' := by
 have hnl := hc.names.len
 have hnr := hc.names.reach
 have B0 := Below.refl w.heap.size w
 refine sx_enter (args := [_, _]) 43 Try.func34 rfl rfl rfl ?_
 intro A f
 refine wp_seq ?_
 refine sx_list ?_
 refine l_box f rfl rfl rfl rfl rfl ?_; clear f A; intro b1 W2 eb1 hb3 rb1 A f; dsimp only [Value.cells] at rb1
 have z_B0_b1 := B0.size; rw [eb1] at z_B0_b1
 replace B0 := Below.next B0 hb3
 refine l_box f rfl rfl rfl rfl rfl ?_; clear f A; intro b4 W5 eb4 hb6 rb4 A f; dsimp only [Value.cells] at rb4
 have o_b1_b4 : b1 < b4 := by have := row_lt rb1; omega
 have z_B0_b4 := B0.size; rw [eb4] at z_B0_b4
 replace B0 := Below.next B0 hb6; replace rb1 := row_next rb1 hb6
 refine l_do f rfl rfl rfl (y_assign rfl rfl) ?_; clear f A; intro A f
 refine wpList_nil ?_
 refine x_tn ?_
 refine wp_seq ?_
 refine sx_list ?_
 refine l_do f rfl rfl rfl (y_field rfl rfl (fo rfl)) ?_; clear f A; intro A f
 refine l_do f rfl rfl rfl (y_load1 rfl rfl (ag rfl) (rowl (rowq rb4) rfl)) ?_; clear f A; intro A f
 have hly := lay_c W5 c.c.size
 refine l_call f rfl rfl rfl (IsCall.mk' (cap := []) rfl rfl rfl) (pl rfl) hly ?_; clear f A; rintro _ W7 ⟨hq, hb8⟩
 rcases hq with ⟨hs, rfl⟩ | ⟨hs, rfl⟩
 ·refine ⟨_, rfl, ?_⟩
  intro A f
  replace B0 := Below.next B0 hb8; replace rb1 := row_next rb1 hb8; replace rb4 := row_next rb4 hb8
  refine l_do f rfl rfl rfl (y_move rfl rfl) ?_; clear f A; intro A f
  refine l_do f rfl rfl rfl (y_ext rfl rfl rfl) ?_; clear f A; intro A f
  refine l_do f rfl rfl rfl (y_ext rfl rfl rfl) ?_; clear f A; intro A f
  refine l_do f rfl rfl rfl (y_ext rfl rfl rfl) ?_; clear f A; intro A f
  refine l_do f rfl rfl rfl (y_assign rfl rfl) ?_; clear f A; intro A f
  refine l_do f rfl rfl rfl (y_assign rfl rfl) ?_; clear f A; intro A f
  refine l_do f rfl rfl rfl (y_assign rfl rfl) ?_; clear f A; intro A f
  refine wpList_nil ?_
  refine x_tn ?_
  refine wp_seq ?_
  refine wp_seq ?_
  refine sx_list ?_
  refine l_do f rfl rfl rfl (y_move rfl rfl) ?_; clear f A; intro A f
  refine l_if _ f rfl rfl rfl (y_neq rfl rfl rfl) ?_ ?_
  ·intro c9; exfalso; omega
  ·clear f A; intro c9 A f
   refine l_do f rfl rfl rfl (y_move rfl rfl) ?_; clear f A; intro A f
   refine l_do f rfl rfl rfl (y_field rfl rfl (fo rfl)) ?_; clear f A; intro A f
   refine l_do f rfl rfl rfl (y_load1 rfl rfl (ag rfl) (rowl (rowq rb4) rfl)) ?_; clear f A; intro A f
   refine l_do f rfl rfl rfl (y_move rfl rfl) ?_; clear f A; intro A f
   refine l_if _ f rfl rfl rfl (y_neq rfl rfl rfl) ?_ ?_
   ·clear f A; intro c10 A f
    refine l_do f rfl rfl rfl (y_pick rfl rfl rfl) ?_; clear f A; intro A f
    refine l_do f rfl rfl rfl (y_move rfl rfl) ?_; clear f A; intro A f
    refine l_no f rfl rfl rfl ?_; clear f A; intro A f
    refine l_no f rfl rfl rfl ?_; clear f A; intro A f
    refine l_no f rfl rfl rfl ?_; clear f A; intro A f
    refine l_no f rfl rfl rfl ?_; clear f A; intro A f
    refine l_do f rfl rfl rfl (y_pick rfl rfl rfl) ?_; clear f A; intro A f
    refine wpList_nil ?_
    refine x_tn ?_
    refine x_condT f rfl ?_
    refine wp_seq ?_
    refine sx_list ?_
    refine l_do f rfl rfl rfl (y_assign rfl rfl) ?_; clear f A; intro A f
    refine wpList_nil ?_
    refine x_tn ?_
    refine wp_ret ?_
    refine x_tr ?_
    refine x_ret1 f rfl rfl ?_
    exact ⟨retB_false (fun h => by have := h.order; omega), B0⟩
   ·clear f A; intro c10 A f
    refine l_do f rfl rfl rfl (y_pick rfl rfl rfl) ?_; clear f A; intro A f
    refine l_do f rfl rfl rfl (y_move rfl rfl) ?_; clear f A; intro A f
    refine l_do f rfl rfl rfl (y_field rfl rfl (fo rfl)) ?_; clear f A; intro A f
    refine l_do f rfl rfl rfl (y_load1 rfl rfl (ag rfl) (rowl (rowq rb4) rfl)) ?_; clear f A; intro A f
    refine l_do f rfl rfl rfl (y_move rfl rfl) ?_; clear f A; intro A f
    refine l_if _ f rfl rfl rfl (y_neq rfl rfl rfl) ?_ ?_
    ·clear f A; intro c11 A f
     refine l_do f rfl rfl rfl (y_pick rfl rfl rfl) ?_; clear f A; intro A f
     refine wpList_nil ?_
     refine x_tn ?_
     refine x_condT f rfl ?_
     refine wp_seq ?_
     refine sx_list ?_
     refine l_do f rfl rfl rfl (y_assign rfl rfl) ?_; clear f A; intro A f
     refine wpList_nil ?_
     refine x_tn ?_
     refine wp_ret ?_
     refine x_tr ?_
     refine x_ret1 f rfl rfl ?_
     exact ⟨retB_false (fun h => by have := h.per; omega), B0⟩
    ·clear f A; intro c11 A f
     refine l_do f rfl rfl rfl (y_pick rfl rfl rfl) ?_; clear f A; intro A f
     refine wpList_nil ?_
     refine x_tn ?_
     refine x_condF f rfl ?_
     refine wp_skip ?_
     refine x_tn ?_
     refine wp_seq ?_
     refine sx_list ?_
     refine l_do f rfl rfl rfl (y_field rfl rfl (fo rfl)) ?_; clear f A; intro A f
     refine l_do f rfl rfl rfl (y_load1 rfl rfl (ag rfl) (rowl (rowq rb4) rfl)) ?_; clear f A; intro A f
     refine l_do f rfl rfl rfl (y_len rfl rfl (sl rfl)) ?_; clear f A; intro A f
     refine l_if _ f rfl rfl rfl (y_gtr rfl rfl rfl) ?_ ?_
     ·clear f A; intro c12 A f
      refine l_do f rfl rfl rfl (y_move rfl rfl) ?_; clear f A; intro A f
      refine l_do f rfl rfl rfl (y_loadN (vs := [_, _, _, _, _, _, _]) rfl rfl (ag rfl) rfl (rowls (rowq rb1) _ _ ⟨rfl, rfl, rfl, rfl, rfl, rfl, rfl, trivial⟩)) ?_; clear f A; intro A f
      refine l_do f rfl rfl rfl (y_loadN (vs := [_, _, _, _, _, _]) rfl rfl (ag rfl) rfl (rowls (rowq rb4) _ _ ⟨rfl, rfl, rfl, rfl, rfl, rfl, trivial⟩)) ?_; clear f A; intro A f
      refine l_callB _ f rfl rfl rfl (IsCall.mk' (cap := []) rfl rfl rfl) (pl rfl) (slSlabsMay_any _ x c (hx.below B0) (hc.below B0) hm hs (by omega)) ?_ ?_
      ·clear f A; intro c13 W15 hb14 A f
       replace B0 := Below.next B0 hb14; replace rb1 := row_next rb1 hb14; replace rb4 := row_next rb4 hb14
       refine l_do f rfl rfl rfl (y_pick rfl rfl rfl) ?_; clear f A; intro A f
       refine l_do f rfl rfl rfl (y_move rfl rfl) ?_; clear f A; intro A f
       refine l_do f rfl rfl rfl (y_loadN (vs := [_, _, _, _, _, _, _]) rfl rfl (ag rfl) rfl (rowls (rowq rb1) _ _ ⟨rfl, rfl, rfl, rfl, rfl, rfl, rfl, trivial⟩)) ?_; clear f A; intro A f
       refine l_do f rfl rfl rfl (y_loadN (vs := [_, _, _, _, _, _]) rfl rfl (ag rfl) rfl (rowls (rowq rb4) _ _ ⟨rfl, rfl, rfl, rfl, rfl, rfl, trivial⟩)) ?_; clear f A; intro A f
       refine l_callB _ f rfl rfl rfl (IsCall.mk' (cap := []) rfl rfl rfl) (pl rfl) (slActMay_any _ x c (hc.below B0) hwf) ?_ ?_
       ·clear f A; intro c16 W18 hb17 A f
        replace B0 := Below.next B0 hb17; replace rb1 := row_next rb1 hb17; replace rb4 := row_next rb4 hb17
        refine l_do f rfl rfl rfl (y_pick rfl rfl rfl) ?_; clear f A; intro A f
        refine l_do f rfl rfl rfl (y_assign rfl rfl) ?_; clear f A; intro A f
        refine wpList_nil ?_
        refine x_tn ?_
        refine wp_ret ?_
        refine x_ret1 f rfl rfl ?_
        exact ⟨retB_true ⟨hs, by omega, by omega, by omega, c13, c16⟩, B0⟩
       ·clear f A; intro c16 W18 hb17 A f
        replace B0 := Below.next B0 hb17; replace rb1 := row_next rb1 hb17; replace rb4 := row_next rb4 hb17
        refine l_do f rfl rfl rfl (y_pick rfl rfl rfl) ?_; clear f A; intro A f
        refine l_do f rfl rfl rfl (y_assign rfl rfl) ?_; clear f A; intro A f
        refine wpList_nil ?_
        refine x_tn ?_
        refine wp_ret ?_
        refine x_ret1 f rfl rfl ?_
        exact ⟨retB_false (fun h => c16 h.act), B0⟩
      ·clear f A; intro c13 W15 hb14 A f
       replace B0 := Below.next B0 hb14; replace rb1 := row_next rb1 hb14; replace rb4 := row_next rb4 hb14
       refine l_do f rfl rfl rfl (y_pick rfl rfl rfl) ?_; clear f A; intro A f
       refine l_do f rfl rfl rfl (y_move rfl rfl) ?_; clear f A; intro A f
       refine l_no f rfl rfl rfl ?_; clear f A; intro A f
       refine l_no f rfl rfl rfl ?_; clear f A; intro A f
       refine l_no f rfl rfl rfl ?_; clear f A; intro A f
       refine l_do f rfl rfl rfl (y_pick rfl rfl rfl) ?_; clear f A; intro A f
       refine l_do f rfl rfl rfl (y_assign rfl rfl) ?_; clear f A; intro A f
       refine wpList_nil ?_
       refine x_tn ?_
       refine wp_ret ?_
       refine x_ret1 f rfl rfl ?_
       exact ⟨retB_false (fun h => c13 h.slabs), B0⟩
     ·clear f A; intro c12 A f
      refine l_do f rfl rfl rfl (y_move rfl rfl) ?_; clear f A; intro A f
      refine l_no f rfl rfl rfl ?_; clear f A; intro A f
      refine l_no f rfl rfl rfl ?_; clear f A; intro A f
      refine l_no f rfl rfl rfl ?_; clear f A; intro A f
      refine l_do f rfl rfl rfl (y_pick rfl rfl rfl) ?_; clear f A; intro A f
      refine l_do f rfl rfl rfl (y_move rfl rfl) ?_; clear f A; intro A f
      refine l_no f rfl rfl rfl ?_; clear f A; intro A f
      refine l_no f rfl rfl rfl ?_; clear f A; intro A f
      refine l_no f rfl rfl rfl ?_; clear f A; intro A f
      refine l_do f rfl rfl rfl (y_pick rfl rfl rfl) ?_; clear f A; intro A f
      refine l_do f rfl rfl rfl (y_assign rfl rfl) ?_; clear f A; intro A f
      refine wpList_nil ?_
      refine x_tn ?_
      refine wp_ret ?_
      refine x_ret1 f rfl rfl ?_
      exact ⟨retB_false (fun h => by have := h.names; omega), B0⟩
 ·refine ⟨_, rfl, ?_⟩
  intro A f
  replace B0 := Below.next B0 hb8; replace rb1 := row_next rb1 hb8; replace rb4 := row_next rb4 hb8
  refine l_do f rfl rfl rfl (y_move rfl rfl) ?_; clear f A; intro A f
  refine l_do f rfl rfl rfl (y_ext rfl rfl rfl) ?_; clear f A; intro A f
  refine l_do f rfl rfl rfl (y_ext rfl rfl rfl) ?_; clear f A; intro A f
  refine l_do f rfl rfl rfl (y_ext rfl rfl rfl) ?_; clear f A; intro A f
  refine l_do f rfl rfl rfl (y_assign rfl rfl) ?_; clear f A; intro A f
  refine l_do f rfl rfl rfl (y_assign rfl rfl) ?_; clear f A; intro A f
  refine l_do f rfl rfl rfl (y_assign rfl rfl) ?_; clear f A; intro A f
  refine wpList_nil ?_
  refine x_tn ?_
  refine wp_seq ?_
  refine wp_seq ?_
  refine sx_list ?_
  refine l_do f rfl rfl rfl (y_move rfl rfl) ?_; clear f A; intro A f
  refine l_if _ f rfl rfl rfl (y_neq rfl rfl rfl) ?_ ?_
  ·clear f A; intro c19 A f
   refine l_do f rfl rfl rfl (y_move rfl rfl) ?_; clear f A; intro A f
   refine l_no f rfl rfl rfl ?_; clear f A; intro A f
   refine l_no f rfl rfl rfl ?_; clear f A; intro A f
   refine l_no f rfl rfl rfl ?_; clear f A; intro A f
   refine l_no f rfl rfl rfl ?_; clear f A; intro A f
   refine l_do f rfl rfl rfl (y_pick rfl rfl rfl) ?_; clear f A; intro A f
   refine l_do f rfl rfl rfl (y_move rfl rfl) ?_; clear f A; intro A f
   refine l_no f rfl rfl rfl ?_; clear f A; intro A f
   refine l_no f rfl rfl rfl ?_; clear f A; intro A f
   refine l_no f rfl rfl rfl ?_; clear f A; intro A f
   refine l_no f rfl rfl rfl ?_; clear f A; intro A f
   refine l_do f rfl rfl rfl (y_pick rfl rfl rfl) ?_; clear f A; intro A f
   refine wpList_nil ?_
   refine x_tn ?_
   refine x_condT f rfl ?_
   refine wp_seq ?_
   refine sx_list ?_
   refine l_do f rfl rfl rfl (y_assign rfl rfl) ?_; clear f A; intro A f
   refine wpList_nil ?_
   refine x_tn ?_
   refine wp_ret ?_
   refine x_tr ?_
   refine x_ret1 f rfl rfl ?_
   exact ⟨retB_false (fun h => hs h.size), B0⟩
  ·intro c19; exfalso; omega
theorem slCachesF_any (w : World) (x : Sy) (c : Cc) (q : Nat) (rq : w.heap[q]? = some (.cells #[.slice x.wo x.wn x.wc, .slice x.h.zo x.h.zn x.h.zc, .slice x.h.mo x.h.mn x.h.mc, .int .i64 x.h.cpus, .slice x.h.lo x.h.ln x.h.lc, .slice x.h.vo x.h.vn x.h.vc, .slice x.co x.cn x.cc] 30 (0, 0))) (hx : x.At w) (hc : c.At w) (hm : HMay x.h.hp) (hwf : ∀ v ∈ c.c.act, (Lit.int .i64 v).wf = true) :
    Calls Try.prog 33 #[cacheV c, .pointer (some ⟨q, 0, none⟩)] w fun e w' => RetB e (¬ ChMay x.words x.h.hp c.c) ∧ Below w.heap.size w w' := by
 have B0 := Below.refl w.heap.size w
 refine sx_enter (args := [_, _]) 8 Try.func33 rfl rfl rfl ?_
 intro A f
 refine wp_seq ?_
 refine sx_list ?_
 refine l_box f rfl rfl rfl rfl rfl ?_; clear f A; intro b1 W2 eb1 hb3 rb1 A f; dsimp only [Value.cells] at rb1
 have o_q_b1 : q < b1 := by have := row_lt rq; omega
 have z_B0_b1 := B0.size; rw [eb1] at z_B0_b1
 replace B0 := Below.next B0 hb3; replace rq := row_next rq hb3
 refine l_do f rfl rfl rfl (y_assign rfl rfl) ?_; clear f A; intro A f
 refine wpList_nil ?_
 refine x_tn ?_
 refine wp_seq ?_
 refine sx_list ?_
 refine l_do f rfl rfl rfl (y_loadN (vs := [_, _, _, _, _, _, _]) rfl rfl (ag rfl) rfl (rowls (rowq rq) _ _ ⟨rfl, rfl, rfl, rfl, rfl, rfl, rfl, trivial⟩)) ?_; clear f A; intro A f
 refine l_do f rfl rfl rfl (y_loadN (vs := [_, _, _, _, _, _]) rfl rfl (ag rfl) rfl (rowls (rowq rb1) _ _ ⟨rfl, rfl, rfl, rfl, rfl, rfl, trivial⟩)) ?_; clear f A; intro A f
 refine l_callB _ f rfl rfl rfl (IsCall.mk' (cap := []) rfl rfl rfl) (pl rfl) (slCacheMay_any _ x c (hx.below B0) (hc.below B0) hm hwf) ?_ ?_
 ·clear f A; intro c4 W6 hb5 A f
  replace B0 := Below.next B0 hb5; replace rq := row_next rq hb5; replace rb1 := row_next rb1 hb5
  refine l_do f rfl rfl rfl (y_not rfl rfl) ?_; clear f A; intro A f
  refine l_do f rfl rfl rfl (y_assign rfl rfl) ?_; clear f A; intro A f
  refine wpList_nil ?_
  refine x_tn ?_
  refine wp_ret ?_
  refine x_ret1 f rfl rfl ?_
  exact ⟨retB_false (fun h => h c4), B0⟩
 ·clear f A; intro c4 W6 hb5 A f
  replace B0 := Below.next B0 hb5; replace rq := row_next rq hb5; replace rb1 := row_next rb1 hb5
  refine l_do f rfl rfl rfl (y_not rfl rfl) ?_; clear f A; intro A f
  refine l_do f rfl rfl rfl (y_assign rfl rfl) ?_; clear f A; intro A f
  refine wpList_nil ?_
  refine x_tn ?_
  refine wp_ret ?_
  refine x_ret1 f rfl rfl ?_
  exact ⟨retB_true c4, B0⟩
theorem slCachesMay_any (w : World) (x : Sy) (hx : x.At w) (hm : HMay x.h.hp) (hwf : ∀ c ∈ x.cs, ∀ v ∈ c.c.act, (Lit.int .i64 v).wf = true) :
    Calls Try.prog 13 #[.agg #[.slice x.wo x.wn x.wc, .slice x.h.zo x.h.zn x.h.zc, .slice x.h.mo x.h.mn x.h.mc, .int .i64 x.h.cpus, .slice x.h.lo x.h.ln x.h.lc, .slice x.h.vo x.h.vn x.h.vc, .slice x.co x.cn x.cc]] w fun e w' => RetB e (∀ c ∈ x.cs, ChMay x.words x.h.hp c.c) ∧ Below w.heap.size w w' := by
 have B0 := Below.refl w.heap.size w
 refine sx_enter (args := [_]) 8 Try.func13 rfl rfl rfl ?_
 intro A f
 refine wp_seq ?_
 refine sx_list ?_
 refine l_box f rfl rfl rfl rfl rfl ?_; clear f A; intro b1 W2 eb1 hb3 rb1 A f; dsimp only [Value.cells] at rb1
 have z_B0_b1 := B0.size; rw [eb1] at z_B0_b1
 replace B0 := Below.next B0 hb3
 refine l_do f rfl rfl rfl (y_assign rfl rfl) ?_; clear f A; intro A f
 refine wpList_nil ?_
 refine x_tn ?_
 refine wp_seq ?_
 refine sx_list ?_
 refine l_do f rfl rfl rfl (y_field rfl rfl (fo rfl)) ?_; clear f A; intro A f
 refine l_do f rfl rfl rfl (y_load1 rfl rfl (ag rfl) (rowl (rowq rb1) rfl)) ?_; clear f A; intro A f
 refine l_do f rfl rfl rfl (y_func rfl rfl) ?_; clear f A; intro A f
 have hcc := cacheContains_any _ 33 [.pointer (some ⟨b1, 0, none⟩)] (pl rfl) x.co x.cn x.cc x.cs (fun c => ¬ ChMay x.words x.h.hp c.c) (hx.caches.below B0) (fun i hi W hW => slCachesF_any W x (x.cs.getD i .zero) b1 (row_next rb1 hW) ((hx.below B0).below hW) (((hx.below B0).below hW).caches.at_ _ (getD_mem (d := Cc.zero) (by have := hx.caches.len; omega))) hm (hwf _ (getD_mem (d := Cc.zero) (by have := hx.caches.len; omega))))
 refine l_callB _ f rfl rfl rfl (IsCall.mk' (cap := []) rfl rfl rfl) (pl rfl) (hcc) ?_ ?_
 ·clear f A; intro c4 W6 hb5 A f
  replace B0 := Below.next B0 hb5; replace rb1 := row_next rb1 hb5
  refine l_do f rfl rfl rfl (y_not rfl rfl) ?_; clear f A; intro A f
  refine l_do f rfl rfl rfl (y_assign rfl rfl) ?_; clear f A; intro A f
  refine wpList_nil ?_
  refine x_tn ?_
  refine wp_ret ?_
  refine x_ret1 f rfl rfl ?_
  exact ⟨retB_false (fun h => by obtain ⟨k, hk, hn⟩ := c4; exact hn (h _ (getD_mem (d := Cc.zero) (by have := hx.caches.len; omega)))), B0⟩
 ·clear f A; intro c4 W6 hb5 A f
  replace B0 := Below.next B0 hb5; replace rb1 := row_next rb1 hb5
  refine l_do f rfl rfl rfl (y_not rfl rfl) ?_; clear f A; intro A f
  refine l_do f rfl rfl rfl (y_assign rfl rfl) ?_; clear f A; intro A f
  refine wpList_nil ?_
  refine x_tn ?_
  refine wp_ret ?_
  refine x_ret1 f rfl rfl ?_
  exact ⟨retB_true (fun c hc => by
   obtain ⟨i, hi, rfl⟩ := List.getElem_of_mem hc
   have := hx.caches.len
   by_cases h : ChMay x.words x.h.hp (x.cs[i]).c
   ·exact h
   ·exact absurd ⟨i, by omega, by rw [List.getD_eq_getElem?_getD, List.getElem?_eq_getElem hi]; exact h⟩ c4), B0⟩
end Go.Proofs.Ytnijjpakpphhhaa
