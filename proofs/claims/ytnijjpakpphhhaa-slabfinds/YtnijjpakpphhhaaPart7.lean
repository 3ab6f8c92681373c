/-
  OWN TEXTS.
-/
import Derived.Test.YtnijjpakpphhhaaPart6
set_option maxRecDepth 10000
set_option maxHeartbeats 4000000
namespace Go.Proofs.Ytnijjpakpphhhaa
open Go Go.RowKit Go.Proofs.Ytnijjpakpphhhaa.Kit
theorem layOf_c (w : World) (s : Int) : Calls Try.prog 42 #[.int .i64 s] w fun e w' => (((1 ≤ s ∧ s ≤ 64) ∧ e = .returned (.tuple #[.int .i64 (layO s), .int .i64 (layN s), .int .i64 0])) ∨ (¬ (1 ≤ s ∧ s ≤ 64) ∧ e = .returned (.tuple #[.int .i64 0, .int .i64 0, .int .i64 1]))) ∧ Below w.heap.size w w' := by
 by_cases h : 1 ≤ s ∧ s ≤ 64
 ·exact (layoutOf_ok s h.1 h.2 w).mono fun _ _ ⟨h1, d, h2⟩ => ⟨.inl ⟨h, h1⟩, by rw [h2]; exact below_drewN (Below.refl _ _) d⟩
 ·exact (layoutOf_no s h w).mono fun _ _ ⟨h1, h2⟩ => ⟨.inr ⟨h, h1⟩, by rw [← h2]; exact Below.refl _ _⟩
theorem drawn_b9 {w w' : World} (h : ({ w with drawn := w.drawn + 1 } : World) = w') : Below w.heap.size w w' := by rw [← h]; exact (Below.refl _ _).drew
theorem slabI_has {l : List Bk} {a : Int} (h : ¬ slabI l a < 0) : ∃ b ∈ l, b.a = a := by
 by_cases h1 : ∃ b ∈ l, b.a = a
 ·exact h1
 ·exact absurd (slabI_iff.2 h1) h
theorem act_add {c : Ch} {k : Nat} {v : Int} (h : c.act.getD k 0 = v) (hin : ∃ b ∈ c.slabs, b.a = v) (hno : ∀ i, i < k → c.act.getD i 0 ≠ v) (hd : ActTo c k) : ActTo c (k + 1) := by
 intro i hi h1
 by_cases e2 : i = k
 ·subst e2
  refine ⟨by rw [h]; exact hin, fun j hj e => hno j hj (by rw [e, h])⟩
 ·exact hd i (by omega) h1
theorem cacheMay_any (w : World) (x : Sy) (c : Cc) (hx : x.At w) (hc : c.At w) (hm : HMay x.h.hp) :
    Calls Try.prog 17 #[.agg #[.slice x.wo x.wn x.wc, .slice x.h.zo x.h.zn x.h.zc, .slice x.h.mo x.h.mn x.h.mc, .int .i64 x.h.cpus, .slice x.h.lo x.h.ln x.h.lc, .slice x.h.vo x.h.vn x.h.vc, .slice x.co x.cn x.cc], .agg #[.slice c.no c.nn c.nc, .int .i64 c.c.size, .int .i64 c.c.per, .int .i64 c.c.order, .slice c.so c.sn c.sc, .slice c.ao c.an c.ac]] w fun e w' => RetB e (ChMay x.words x.h.hp c.c) ∧ Below w.heap.size w w' := by
 have hcpu : x.h.hp.cpus = x.h.cpus := rfl
 have hnl := hc.names.len
 have hal0 := hc.act.len
 have B0 := Below.refl w.heap.size w
 refine sx_enter (args := [_, _]) 137 Try.func17 rfl rfl rfl ?_
 intro A f
 refine wp_seq ?_
 refine sx_list ?_
 refine l_box f rfl rfl rfl rfl rfl ?_; clear f A; intro b1 W2 eb1 hb3 rb1 A f; dsimp only [Value.cells] at rb1
 have z_B0_b1 := B0.size; rw [eb1] at z_B0_b1
 replace B0 := Below.next B0 hb3
 refine l_box f rfl rfl rfl rfl rfl ?_; clear f A; intro b4 W5 eb4 hb6 rb4 A f; dsimp only [Value.cells] at rb4
 have o_b1_b4 : b1 < b4 := by have := row_lt rb1; omega
 have z_B0_b4 := B0.size; rw [eb4] at z_B0_b4
 replace B0 := Below.next B0 hb6; replace rb1 := row_next rb1 hb6
 refine l_do f rfl rfl rfl (y_assign rfl rfl) ?_; clear f A; intro A f
 refine wpList_nil ?_
 refine x_tn ?_
 refine wp_seq ?_
 refine sx_list ?_
 refine l_do f rfl rfl rfl (y_field rfl rfl (fo rfl)) ?_; clear f A; intro A f
 refine l_do f rfl rfl rfl (y_load1 rfl rfl (ag rfl) (rowl (rowq rb4) rfl)) ?_; clear f A; intro A f
 have hly := layOf_c W5 c.c.size
 refine l_call f rfl rfl rfl (IsCall.mk' (cap := []) rfl rfl rfl) (pl rfl) hly ?_; clear f A; rintro _ W7 ⟨hq, hb8⟩
 rcases hq with ⟨hs, rfl⟩ | ⟨hs, rfl⟩
 ·refine ⟨_, rfl, ?_⟩
  intro A f
  replace B0 := Below.next B0 hb8; replace rb1 := row_next rb1 hb8; replace rb4 := row_next rb4 hb8
  refine l_do f rfl rfl rfl (y_move rfl rfl) ?_; clear f A; intro A f
  refine l_do f rfl rfl rfl (y_ext rfl rfl rfl) ?_; clear f A; intro A f
  refine l_do f rfl rfl rfl (y_ext rfl rfl rfl) ?_; clear f A; intro A f
  refine l_do f rfl rfl rfl (y_ext rfl rfl rfl) ?_; clear f A; intro A f
  refine l_do f rfl rfl rfl (y_assign rfl rfl) ?_; clear f A; intro A f
  refine l_do f rfl rfl rfl (y_assign rfl rfl) ?_; clear f A; intro A f
  refine l_do f rfl rfl rfl (y_assign rfl rfl) ?_; clear f A; intro A f
  refine wpList_nil ?_
  refine x_tn ?_
  refine wp_seq ?_
  refine wp_seq ?_
  refine sx_list ?_
  refine l_do f rfl rfl rfl (y_move rfl rfl) ?_; clear f A; intro A f
  refine l_if _ f rfl rfl rfl (y_neq rfl rfl rfl) ?_ ?_
  ·intro c9; exfalso; omega
  ·clear f A; intro c9 A f
   refine l_do f rfl rfl rfl (y_move rfl rfl) ?_; clear f A; intro A f
   refine l_do f rfl rfl rfl (y_move rfl rfl) ?_; clear f A; intro A f
   refine l_do f rfl rfl rfl (y_field rfl rfl (fo rfl)) ?_; clear f A; intro A f
   refine l_do f rfl rfl rfl (y_load1 rfl rfl (ag rfl) (rowl (rowq rb4) rfl)) ?_; clear f A; intro A f
   refine l_if _ f rfl rfl rfl (y_neq rfl rfl rfl) ?_ ?_
   ·clear f A; intro c10 A f
    refine l_do f rfl rfl rfl (y_pick rfl rfl rfl) ?_; clear f A; intro A f
    refine l_do f rfl rfl rfl (y_move rfl rfl) ?_; clear f A; intro A f
    refine l_no f rfl rfl rfl ?_; clear f A; intro A f
    refine l_no f rfl rfl rfl ?_; clear f A; intro A f
    refine l_no f rfl rfl rfl ?_; clear f A; intro A f
    refine l_no f rfl rfl rfl ?_; clear f A; intro A f
    refine l_do f rfl rfl rfl (y_pick rfl rfl rfl) ?_; clear f A; intro A f
    refine l_do f rfl rfl rfl (y_move rfl rfl) ?_; clear f A; intro A f
    refine l_no f rfl rfl rfl ?_; clear f A; intro A f
    refine l_no f rfl rfl rfl ?_; clear f A; intro A f
    refine l_no f rfl rfl rfl ?_; clear f A; intro A f
    refine l_no f rfl rfl rfl ?_; clear f A; intro A f
    refine l_do f rfl rfl rfl (y_pick rfl rfl rfl) ?_; clear f A; intro A f
    refine l_do f rfl rfl rfl (y_move rfl rfl) ?_; clear f A; intro A f
    refine l_no f rfl rfl rfl ?_; clear f A; intro A f
    refine l_no f rfl rfl rfl ?_; clear f A; intro A f
    refine l_no f rfl rfl rfl ?_; clear f A; intro A f
    refine l_no f rfl rfl rfl ?_; clear f A; intro A f
    refine l_no f rfl rfl rfl ?_; clear f A; intro A f
    refine l_no f rfl rfl rfl ?_; clear f A; intro A f
    refine l_no f rfl rfl rfl ?_; clear f A; intro A f
    refine l_do f rfl rfl rfl (y_pick rfl rfl rfl) ?_; clear f A; intro A f
    refine wpList_nil ?_
    refine x_tn ?_
    refine x_condT f rfl ?_
    refine wp_seq ?_
    refine sx_list ?_
    refine l_do f rfl rfl rfl (y_assign rfl rfl) ?_; clear f A; intro A f
    refine wpList_nil ?_
    refine x_tn ?_
    refine wp_ret ?_
    refine x_tr ?_
    refine x_ret1 f rfl rfl ?_
    exact ⟨retB_false (fun h => by have := h.order; omega), B0⟩
   ·clear f A; intro c10 A f
    refine l_do f rfl rfl rfl (y_pick rfl rfl rfl) ?_; clear f A; intro A f
    refine l_do f rfl rfl rfl (y_move rfl rfl) ?_; clear f A; intro A f
    refine l_do f rfl rfl rfl (y_move rfl rfl) ?_; clear f A; intro A f
    refine l_do f rfl rfl rfl (y_field rfl rfl (fo rfl)) ?_; clear f A; intro A f
    refine l_do f rfl rfl rfl (y_load1 rfl rfl (ag rfl) (rowl (rowq rb4) rfl)) ?_; clear f A; intro A f
    refine l_if _ f rfl rfl rfl (y_neq rfl rfl rfl) ?_ ?_
    ·clear f A; intro c11 A f
     refine l_do f rfl rfl rfl (y_pick rfl rfl rfl) ?_; clear f A; intro A f
     refine l_do f rfl rfl rfl (y_move rfl rfl) ?_; clear f A; intro A f
     refine l_no f rfl rfl rfl ?_; clear f A; intro A f
     refine l_no f rfl rfl rfl ?_; clear f A; intro A f
     refine l_no f rfl rfl rfl ?_; clear f A; intro A f
     refine l_no f rfl rfl rfl ?_; clear f A; intro A f
     refine l_do f rfl rfl rfl (y_pick rfl rfl rfl) ?_; clear f A; intro A f
     refine l_do f rfl rfl rfl (y_move rfl rfl) ?_; clear f A; intro A f
     refine l_no f rfl rfl rfl ?_; clear f A; intro A f
     refine l_no f rfl rfl rfl ?_; clear f A; intro A f
     refine l_no f rfl rfl rfl ?_; clear f A; intro A f
     refine l_no f rfl rfl rfl ?_; clear f A; intro A f
     refine l_no f rfl rfl rfl ?_; clear f A; intro A f
     refine l_no f rfl rfl rfl ?_; clear f A; intro A f
     refine l_no f rfl rfl rfl ?_; clear f A; intro A f
     refine l_do f rfl rfl rfl (y_pick rfl rfl rfl) ?_; clear f A; intro A f
     refine wpList_nil ?_
     refine x_tn ?_
     refine x_condT f rfl ?_
     refine wp_seq ?_
     refine sx_list ?_
     refine l_do f rfl rfl rfl (y_assign rfl rfl) ?_; clear f A; intro A f
     refine wpList_nil ?_
     refine x_tn ?_
     refine wp_ret ?_
     refine x_tr ?_
     refine x_ret1 f rfl rfl ?_
     exact ⟨retB_false (fun h => by have := h.per; omega), B0⟩
    ·clear f A; intro c11 A f
     refine l_do f rfl rfl rfl (y_pick rfl rfl rfl) ?_; clear f A; intro A f
     refine l_do f rfl rfl rfl (y_move rfl rfl) ?_; clear f A; intro A f
     refine l_do f rfl rfl rfl (y_field rfl rfl (fo rfl)) ?_; clear f A; intro A f
     refine l_do f rfl rfl rfl (y_load1 rfl rfl (ag rfl) (rowl (rowq rb4) rfl)) ?_; clear f A; intro A f
     refine l_do f rfl rfl rfl (y_len rfl rfl (sl rfl)) ?_; clear f A; intro A f
     refine l_if _ f rfl rfl rfl (y_eql rfl rfl rfl) ?_ ?_
     ·clear f A; intro c12 A f
      refine l_do f rfl rfl rfl (y_pick rfl rfl rfl) ?_; clear f A; intro A f
      refine l_do f rfl rfl rfl (y_move rfl rfl) ?_; clear f A; intro A f
      refine l_no f rfl rfl rfl ?_; clear f A; intro A f
      refine l_no f rfl rfl rfl ?_; clear f A; intro A f
      refine l_no f rfl rfl rfl ?_; clear f A; intro A f
      refine l_no f rfl rfl rfl ?_; clear f A; intro A f
      refine l_no f rfl rfl rfl ?_; clear f A; intro A f
      refine l_no f rfl rfl rfl ?_; clear f A; intro A f
      refine l_no f rfl rfl rfl ?_; clear f A; intro A f
      refine l_do f rfl rfl rfl (y_pick rfl rfl rfl) ?_; clear f A; intro A f
      refine wpList_nil ?_
      refine x_tn ?_
      refine x_condT f rfl ?_
      refine wp_seq ?_
      refine sx_list ?_
      refine l_do f rfl rfl rfl (y_assign rfl rfl) ?_; clear f A; intro A f
      refine wpList_nil ?_
      refine x_tn ?_
      refine wp_ret ?_
      refine x_tr ?_
      refine x_ret1 f rfl rfl ?_
      exact ⟨retB_false (fun h => by have := h.names; have := hc.names.len; omega), B0⟩
     ·clear f A; intro c12 A f
      refine l_do f rfl rfl rfl (y_pick rfl rfl rfl) ?_; clear f A; intro A f
      refine l_do f rfl rfl rfl (y_move rfl rfl) ?_; clear f A; intro A f
      refine l_do f rfl rfl rfl (y_field rfl rfl (fo rfl)) ?_; clear f A; intro A f
      refine l_do f rfl rfl rfl (y_load1 rfl rfl (ag rfl) (rowl (rowq rb4) rfl)) ?_; clear f A; intro A f
      refine l_do f rfl rfl rfl (y_len rfl rfl (sl rfl)) ?_; clear f A; intro A f
      refine l_do f rfl rfl rfl (y_field rfl rfl (fo rfl)) ?_; clear f A; intro A f
      refine l_do f rfl rfl rfl (y_field rfl rfl (fo rfl)) ?_; clear f A; intro A f
      refine l_do f rfl rfl rfl (y_load1 rfl rfl (ag rfl) (rowl (rowq rb1) rfl)) ?_; clear f A; intro A f
      refine l_if _ f rfl rfl rfl (y_neq rfl rfl rfl) ?_ ?_
      ·clear f A; intro c13 A f
       refine l_do f rfl rfl rfl (y_pick rfl rfl rfl) ?_; clear f A; intro A f
       refine wpList_nil ?_
       refine x_tn ?_
       refine x_condT f rfl ?_
       refine wp_seq ?_
       refine sx_list ?_
       refine l_do f rfl rfl rfl (y_assign rfl rfl) ?_; clear f A; intro A f
       refine wpList_nil ?_
       refine x_tn ?_
       refine wp_ret ?_
       refine x_tr ?_
       refine x_ret1 f rfl rfl ?_
       exact ⟨retB_false (fun h => by have := h.act.1; have := hc.act.len; omega), B0⟩
      ·clear f A; intro c13 A f
       refine l_do f rfl rfl rfl (y_pick rfl rfl rfl) ?_; clear f A; intro A f
       refine wpList_nil ?_
       refine x_tn ?_
       refine x_condF f rfl ?_
       refine wp_skip ?_
       refine x_tn ?_
       refine wp_seq ?_
       refine wp_seq ?_
       refine sx_list ?_
       refine l_do f rfl rfl rfl (y_assign rfl rfl) ?_; clear f A; intro A f
       refine wpList_nil ?_
       refine x_tn ?_
       refine wp_block ?_
       have hord : c.c.order = layO c.c.size := by omega
       have hper : c.c.per = layN c.c.size := by omega
       have hsr := hc.slabs.reach
       have hsl := hc.slabs.len
       have har := hc.act.reach
       have hal := hc.act.len
       have ho0 : 0 ≤ layO c.c.size := by unfold layO; split; (omega); split <;> omega
       refine x_loop (fun n A W => ∃ k : Nat, n = c.sn - k ∧ k ≤ c.sn ∧ Fr A 137 [(2, .pointer (some ⟨b1, 0, none⟩)), (3, .pointer (some ⟨b4, 0, none⟩)), (5, .int .i64 (layO c.c.size)), (8, .int .i64 (k : Nat))] ∧ Below w.heap.size w W ∧ W.heap[b1]? = some (.cells #[.slice x.wo x.wn x.wc, .slice x.h.zo x.h.zn x.h.zc, .slice x.h.mo x.h.mn x.h.mc, .int .i64 x.h.cpus, .slice x.h.lo x.h.ln x.h.lc, .slice x.h.vo x.h.vn x.h.vc, .slice x.co x.cn x.cc] 30 (0, 0)) ∧ W.heap[b4]? = some (.cells #[.slice c.no c.nn c.nc, .int .i64 c.c.size, .int .i64 c.c.per, .int .i64 c.c.order, .slice c.so c.sn c.sc, .slice c.ao c.an c.ac] 45 (0, 0)) ∧ ∀ i, i < k → SlabOk x.words x.h.hp c.c i) (n0 := c.sn) (⟨0, rfl, Nat.zero_le _, f.sub ⟨rfl, rfl, rfl, rfl, trivial⟩, B0, rb1, rb4, fun i hi => absurd hi (Nat.not_lt_zero i)⟩) ?_
       clear f A
       clear B0 rb1 rb4
       rintro n A W14 ⟨k, hn, hk, f, B0, rb1, rb4, hd⟩
       refine wp_seq ?_
       refine wp_seq ?_
       refine sx_list ?_
       refine l_do f rfl rfl rfl (y_move rfl rfl) ?_; clear f A; intro A f
       refine l_do f rfl rfl rfl (y_field rfl rfl (fo rfl)) ?_; clear f A; intro A f
       refine l_do f rfl rfl rfl (y_load1 rfl rfl (ag rfl) (rowl (rowq rb4) rfl)) ?_; clear f A; intro A f
       refine l_do f rfl rfl rfl (y_len rfl rfl (sl rfl)) ?_; clear f A; intro A f
       refine l_if _ f rfl rfl rfl (y_lss rfl rfl rfl) ?_ ?_
       ·clear f A; intro c15 A f
        refine wpList_nil ?_
        refine x_tn ?_
        refine x_condT f rfl ?_
        refine wp_skip ?_
        refine x_tn ?_
        refine wp_seq ?_
        refine wp_block ?_
        refine wp_seq ?_
        refine wp_seq ?_
        refine sx_quiet (by kernel_rfl) (by kernel_rfl) ?_
        refine q_do f rfl rfl rfl (y_field rfl rfl (fo rfl)) ?_; clear f A; intro A f
        refine q_do f rfl rfl rfl (y_loadN (vs := [_, _, _, _, _]) rfl rfl (ag rfl) rfl (rowls (rowq rb1) _ _ ⟨rfl, rfl, rfl, rfl, rfl, trivial⟩)) ?_; clear f A; intro A f
        refine q_do f rfl rfl rfl (y_field rfl rfl (fo rfl)) ?_; clear f A; intro A f
        refine q_do f rfl rfl rfl (y_load1 rfl rfl (ag rfl) (rowl (rowq rb4) rfl)) ?_; clear f A; intro A f
        refine q_do f rfl rfl rfl (y_move rfl rfl) ?_; clear f A; intro A f
        obtain ⟨ge, oe, bae, boe, bte, hae, c0e, c1e, c2e, hXe⟩ := hc.slabs.at_.at (k) (by have := hc.slabs.len; omega)
        replace c0e := St.of c0e; replace c1e := St.of c1e; replace c2e := St.of c2e
        refine q_do f rfl rfl rfl (y_index rfl rfl (by first | rfl | assumption) rfl (es rfl) (by omega)) ?_; clear f A; intro A f
        refine q_do f rfl rfl rfl (y_field rfl rfl (fo rfl)) ?_; clear f A; intro A f
        refine q_do f rfl rfl rfl (y_load1 rfl rfl (ag rfl) (by first | assumption | exact St.q c0e B0 | exact St.q c1e B0 | exact St.q c2e B0)) ?_; clear f A; intro A f
        refine q_call f rfl rfl rfl (IsCall.mk' (cap := []) rfl rfl rfl) (pl rfl) (c_clb fun wx hw => liveOrder_c wx x.h bae ((hx.heap.below B0).below hw)) ?_; clear f A; intro A f
        refine q_do f rfl rfl rfl (y_move rfl rfl) ?_; clear f A; intro A f
        have hlo := liveO_iff (a := bae) hm.lv ho0
        refine q_if _ f rfl rfl rfl (y_neq rfl rfl rfl) ?_ ?_
        ·clear f A; intro c16 A f
         refine q_do f rfl rfl rfl (y_move rfl rfl) ?_; clear f A; intro A f
         refine q_no f rfl rfl rfl ?_; clear f A; intro A f
         refine q_no f rfl rfl rfl ?_; clear f A; intro A f
         refine q_no f rfl rfl rfl ?_; clear f A; intro A f
         refine q_no f rfl rfl rfl ?_; clear f A; intro A f
         refine q_no f rfl rfl rfl ?_; clear f A; intro A f
         refine q_no f rfl rfl rfl ?_; clear f A; intro A f
         refine q_no f rfl rfl rfl ?_; clear f A; intro A f
         refine q_no f rfl rfl rfl ?_; clear f A; intro A f
         refine q_no f rfl rfl rfl ?_; clear f A; intro A f
         refine q_no f rfl rfl rfl ?_; clear f A; intro A f
         refine q_no f rfl rfl rfl ?_; clear f A; intro A f
         refine q_no f rfl rfl rfl ?_; clear f A; intro A f
         refine q_no f rfl rfl rfl ?_; clear f A; intro A f
         refine q_no f rfl rfl rfl ?_; clear f A; intro A f
         refine q_no f rfl rfl rfl ?_; clear f A; intro A f
         refine q_no f rfl rfl rfl ?_; clear f A; intro A f
         refine q_no f rfl rfl rfl ?_; clear f A; intro A f
         refine q_no f rfl rfl rfl ?_; clear f A; intro A f
         refine q_do f rfl rfl rfl (y_pick rfl rfl rfl) ?_; clear f A; intro A f
         refine wpQuiet_nil ?_; intro W18 hb17; replace B0 := Below.next B0 hb17; replace rb1 := row_next rb1 hb17; replace rb4 := row_next rb4 hb17
         refine x_tn ?_
         refine x_condT f rfl ?_
         refine wp_seq ?_
         refine sx_list ?_
         refine l_do f rfl rfl rfl (y_assign rfl rfl) ?_; clear f A; intro A f
         refine wpList_nil ?_
         refine x_tn ?_
         refine wp_ret ?_
         refine x_tr ?_
         refine x_br ?_
         refine x_tr ?_
         refine x_tr ?_
         refine x_br ?_
         refine x_tr ?_
         refine x_ret1 f rfl rfl ?_
         refine ⟨retB_false (fun h => ?_), B0⟩
         have h1 := (h.slabs k (by omega)).2.1
         obtain ⟨v, hv, h2, h3⟩ := h1
         rw [hXe.out] at h2
         exact c16 (hlo.2 ⟨v, hv, h2, by omega⟩)
        ·clear f A; intro c16 A f
         refine q_do f rfl rfl rfl (y_move rfl rfl) ?_; clear f A; intro A f
         refine q_do f rfl rfl rfl (y_move rfl rfl) ?_; clear f A; intro A f
         refine q_if _ f rfl rfl rfl (y_gtr rfl rfl rfl) ?_ ?_
         ·clear f A; intro c19 A f
          refine q_do f rfl rfl rfl (y_move rfl rfl) ?_; clear f A; intro A f
          refine q_do f rfl rfl rfl (y_field rfl rfl (fo rfl)) ?_; clear f A; intro A f
          refine q_do f rfl rfl rfl (y_load1 rfl rfl (ag rfl) (rowl (rowq rb4) rfl)) ?_; clear f A; intro A f
          refine q_do f rfl rfl rfl (y_move rfl rfl) ?_; clear f A; intro A f
          refine q_do f rfl rfl rfl (y_sub (c := ((k - 1 : Nat) : Int)) rfl rfl rfl (by omega) (by omega)) ?_; clear f A; intro A f
          obtain ⟨gp, op, bap, bop, btp, hap, c0p, c1p, c2p, hXp⟩ := hc.slabs.at_.at (k - 1) (by have := hc.slabs.len; omega)
          replace c0p := St.of c0p; replace c1p := St.of c1p; replace c2p := St.of c2p
          rw [hae] at hap; simp only [Option.some.injEq, Addr.mk.injEq, and_true] at hap; obtain ⟨rfl, rfl⟩ := hap
          refine q_do f rfl rfl rfl (y_index rfl rfl (by first | rfl | assumption) rfl (es rfl) (by omega)) ?_; clear f A; intro A f
          refine q_do f rfl rfl rfl (y_field rfl rfl (fo rfl)) ?_; clear f A; intro A f
          refine q_do f rfl rfl rfl (y_load1 rfl rfl (ag rfl) (by first | assumption | exact St.q c0e B0 | exact St.q c1e B0 | exact St.q c2e B0 | exact St.q c0p B0 | exact St.q c1p B0 | exact St.q c2p B0)) ?_; clear f A; intro A f
          refine q_do f rfl rfl rfl (y_field rfl rfl (fo rfl)) ?_; clear f A; intro A f
          refine q_do f rfl rfl rfl (y_load1 rfl rfl (ag rfl) (rowl (rowq rb4) rfl)) ?_; clear f A; intro A f
          refine q_do f rfl rfl rfl (y_move rfl rfl) ?_; clear f A; intro A f
          refine q_do f rfl rfl rfl (y_index rfl rfl (by first | rfl | assumption) rfl (es rfl) (by omega)) ?_; clear f A; intro A f
          refine q_do f rfl rfl rfl (y_field rfl rfl (fo rfl)) ?_; clear f A; intro A f
          refine q_do f rfl rfl rfl (y_load1 rfl rfl (ag rfl) (by first | assumption | exact St.q c0e B0 | exact St.q c1e B0 | exact St.q c2e B0 | exact St.q c0p B0 | exact St.q c1p B0 | exact St.q c2p B0)) ?_; clear f A; intro A f
          refine q_if _ f rfl rfl rfl (y_geq rfl rfl rfl) ?_ ?_
          ·clear f A; intro c20 A f
           refine q_do f rfl rfl rfl (y_pick rfl rfl rfl) ?_; clear f A; intro A f
           refine q_do f rfl rfl rfl (y_pick rfl rfl rfl) ?_; clear f A; intro A f
           refine wpQuiet_nil ?_; intro W22 hb21; replace B0 := Below.next B0 hb21; replace rb1 := row_next rb1 hb21; replace rb4 := row_next rb4 hb21
           refine x_tn ?_
           refine x_condT f rfl ?_
           refine wp_seq ?_
           refine sx_list ?_
           refine l_do f rfl rfl rfl (y_assign rfl rfl) ?_; clear f A; intro A f
           refine wpList_nil ?_
           refine x_tn ?_
           refine wp_ret ?_
           refine x_tr ?_
           refine x_br ?_
           refine x_tr ?_
           refine x_tr ?_
           refine x_br ?_
           refine x_tr ?_
           refine x_ret1 f rfl rfl ?_
           refine ⟨retB_false (fun h => ?_), B0⟩
           have h1 := (h.slabs k (by omega)).1 (by omega)
           have h2 := hXp.out; have h3 := hXe.out; simp only [h2, h3] at h1; omega
          ·clear f A; intro c20 A f
           refine q_do f rfl rfl rfl (y_pick rfl rfl rfl) ?_; clear f A; intro A f
           refine q_do f rfl rfl rfl (y_pick rfl rfl rfl) ?_; clear f A; intro A f
           refine wpQuiet_nil ?_; intro W24 hb23; replace B0 := Below.next B0 hb23; replace rb1 := row_next rb1 hb23; replace rb4 := row_next rb4 hb23
           refine x_tn ?_
           refine x_condF f rfl ?_
           refine wp_skip ?_
           refine x_tn ?_
           refine wp_seq ?_
           have q_b1 := fun wx (h : Below W24.heap.size W24 wx) => row_next rb1 h
           have q_b4 := fun wx (h : Below W24.heap.size W24 wx) => row_next rb4 h
           have hq0 := fun wx (h : Below W24.heap.size W24 wx) => Below.next B0 h
           have hlive : IsLive x.h.hp c.c (c.c.slabs.getD k .zero) := by obtain ⟨v, hv, h2, h3⟩ := hlo.1 (by omega); exact ⟨v, hv, by rw [hXe.out]; exact h2, by omega⟩
           have hav := isLive_at hm hlive
           rw [hXe.out] at hav
           refine sx_held (fun wx => Below W24.heap.size W24 wx) [7] (by kernel_rfl) (by kernel_rfl) (blind_then (blind_in (blind_then (blind_then (blind_in (blind_then (blind_body))))))) ((Below.refl _ _).drew) ?_
           generalize hWd : ({ W24 with drawn := W24.drawn + 1 } : World) = W25
           have hdr := drawn_b9 hWd
           clear hWd
           have hS := hdr
           replace B0 := Below.next B0 hdr; replace rb1 := row_next rb1 hdr; replace rb4 := row_next rb4 hdr
           refine h_do f rfl rfl rfl rfl (y_loadN (vs := [_, _, _, _, _, _, _]) rfl rfl (ag rfl) rfl (rowls q_b1 _ _ ⟨rfl, rfl, rfl, rfl, rfl, rfl, rfl, trivial⟩)) ?_; clear f A; intro A f
           refine h_do f rfl rfl rfl rfl (y_loadN (vs := [_, _, _, _, _, _]) rfl rfl (ag rfl) rfl (rowls q_b4 _ _ ⟨rfl, rfl, rfl, rfl, rfl, rfl, trivial⟩)) ?_; clear f A; intro A f
           refine h_do f rfl rfl rfl rfl (y_field rfl rfl (fo rfl)) ?_; clear f A; intro A f
           refine h_do f rfl rfl rfl rfl (y_load1 rfl rfl (ag rfl) (rowl q_b4 rfl)) ?_; clear f A; intro A f
           refine h_do f rfl rfl rfl rfl (y_move rfl rfl) ?_; clear f A; intro A f
           refine h_do f rfl rfl rfl rfl (y_index rfl rfl (by first | rfl | assumption) rfl (es rfl) (by omega)) ?_; clear f A; intro A f
           refine h_do f rfl rfl rfl rfl (y_loadN (vs := [_, _, _]) rfl rfl (ag rfl) rfl ⟨(by first | assumption | exact St.c c0e hq0 | exact St.c c1e hq0 | exact St.c c2e hq0 | exact St.c c0p hq0 | exact St.c c1p hq0 | exact St.c c2p hq0), (by first | assumption | exact St.c c0e hq0 | exact St.c c1e hq0 | exact St.c c2e hq0 | exact St.c c0p hq0 | exact St.c c1p hq0 | exact St.c c2p hq0), (by first | assumption | exact St.c c0e hq0 | exact St.c c1e hq0 | exact St.c c2e hq0 | exact St.c c0p hq0 | exact St.c c1p hq0 | exact St.c c2p hq0), trivial⟩) ?_; clear f A; intro A f
           refine h_call f rfl rfl rfl rfl (IsCall.mk' (cap := []) rfl rfl rfl) (pl rfl) (freeIn_any _ x c ⟨bae, boe, bte⟩ (hx.below B0) hs hper hav) ?_
           clear f A; rintro _ W26 ⟨⟨lo, ln, lc, r, rfl, hfr⟩, hb27⟩
           refine ⟨_, rfl, Below.next hS hb27, ?_⟩
           rcases hfr with ⟨rfl, l, hL, hch, hlo2, hob⟩ | ⟨rfl, hz, hck⟩
           ·intro A f
            replace B0 := Below.next B0 hb27; replace rb1 := row_next rb1 hb27; replace rb4 := row_next rb4 hb27
            have hck : ChainOk x.words c.c (c.c.slabs.getD k .zero) := by rw [hXe.out]; exact chainOk_of hch hlo2 hob
            refine h_do f rfl rfl rfl rfl (y_move rfl rfl) ?_; clear f A; intro A f
            refine h_do f rfl rfl rfl rfl (y_ext rfl rfl rfl) ?_; clear f A; intro A f
            refine h_do f rfl rfl rfl rfl (y_ext rfl rfl rfl) ?_; clear f A; intro A f
            refine h_do f rfl rfl rfl rfl (y_assign rfl rfl) ?_; clear f A; intro A f
            refine h_do f rfl rfl rfl rfl (y_assign rfl rfl) ?_; clear f A; intro A f
            refine h_nil ?_
            refine x_tn ?_
            refine wp_seq ?_
            refine sx_list ?_
            refine l_do f rfl rfl rfl (y_move rfl rfl) ?_; clear f A; intro A f
            refine l_do f rfl rfl rfl (y_not rfl rfl) ?_; clear f A; intro A f
            refine wpList_nil ?_
            refine x_tn ?_
            refine x_condF f rfl ?_
            refine wp_skip ?_
            refine x_bn ?_
            refine x_tn ?_
            refine sx_list ?_
            refine l_do f rfl rfl rfl (y_move rfl rfl) ?_; clear f A; intro A f
            refine l_do f rfl rfl rfl (y_add rfl rfl rfl rfl (by omega)) ?_; clear f A; intro A f
            refine l_do f rfl rfl rfl (y_assign rfl rfl) ?_; clear f A; intro A f
            refine wpList_nil ?_
            refine x_tn ?_
            refine ⟨c.sn - (k + 1), by omega, k + 1, rfl, by omega, f.sub ⟨rfl, rfl, rfl, rfl, trivial⟩, B0, rb1, rb4, fun i hi => ?_⟩
            by_cases e : i = k
            ·subst e; exact ⟨fun h => by have h2 := hXp.out; have h3 := hXe.out; simp only [h2, h3]; omega, hlive, hck⟩
            ·exact hd i (by omega)
           ·intro A f
            replace B0 := Below.next B0 hb27; replace rb1 := row_next rb1 hb27; replace rb4 := row_next rb4 hb27
            replace hck : ¬ ChainOk x.words c.c (c.c.slabs.getD k .zero) := by rw [hXe.out]; exact hck
            refine h_do f rfl rfl rfl rfl (y_move rfl rfl) ?_; clear f A; intro A f
            refine h_do f rfl rfl rfl rfl (y_ext rfl rfl rfl) ?_; clear f A; intro A f
            refine h_do f rfl rfl rfl rfl (y_ext rfl rfl rfl) ?_; clear f A; intro A f
            refine h_do f rfl rfl rfl rfl (y_assign rfl rfl) ?_; clear f A; intro A f
            refine h_do f rfl rfl rfl rfl (y_assign rfl rfl) ?_; clear f A; intro A f
            refine h_nil ?_
            refine x_tn ?_
            refine wp_seq ?_
            refine sx_list ?_
            refine l_do f rfl rfl rfl (y_move rfl rfl) ?_; clear f A; intro A f
            refine l_do f rfl rfl rfl (y_not rfl rfl) ?_; clear f A; intro A f
            refine wpList_nil ?_
            refine x_tn ?_
            refine x_condT f rfl ?_
            refine wp_seq ?_
            refine sx_list ?_
            refine l_do f rfl rfl rfl (y_assign rfl rfl) ?_; clear f A; intro A f
            refine wpList_nil ?_
            refine x_tn ?_
            refine wp_ret ?_
            refine x_br ?_
            refine x_tr ?_
            refine x_tr ?_
            refine x_br ?_
            refine x_tr ?_
            refine x_ret1 f rfl rfl ?_
            exact ⟨retB_false (fun h => hck (h.slabs k (by omega)).2.2), B0⟩
         ·clear f A; intro c19 A f
          refine q_do f rfl rfl rfl (y_move rfl rfl) ?_; clear f A; intro A f
          refine q_no f rfl rfl rfl ?_; clear f A; intro A f
          refine q_no f rfl rfl rfl ?_; clear f A; intro A f
          refine q_no f rfl rfl rfl ?_; clear f A; intro A f
          refine q_no f rfl rfl rfl ?_; clear f A; intro A f
          refine q_no f rfl rfl rfl ?_; clear f A; intro A f
          refine q_no f rfl rfl rfl ?_; clear f A; intro A f
          refine q_no f rfl rfl rfl ?_; clear f A; intro A f
          refine q_no f rfl rfl rfl ?_; clear f A; intro A f
          refine q_no f rfl rfl rfl ?_; clear f A; intro A f
          refine q_no f rfl rfl rfl ?_; clear f A; intro A f
          refine q_no f rfl rfl rfl ?_; clear f A; intro A f
          refine q_no f rfl rfl rfl ?_; clear f A; intro A f
          refine q_no f rfl rfl rfl ?_; clear f A; intro A f
          refine q_no f rfl rfl rfl ?_; clear f A; intro A f
          refine q_do f rfl rfl rfl (y_pick rfl rfl rfl) ?_; clear f A; intro A f
          refine q_do f rfl rfl rfl (y_pick rfl rfl rfl) ?_; clear f A; intro A f
          refine wpQuiet_nil ?_; intro W29 hb28; replace B0 := Below.next B0 hb28; replace rb1 := row_next rb1 hb28; replace rb4 := row_next rb4 hb28
          refine x_tn ?_
          refine x_condF f rfl ?_
          refine wp_skip ?_
          refine x_tn ?_
          refine wp_seq ?_
          have q_b1 := fun wx (h : Below W29.heap.size W29 wx) => row_next rb1 h
          have q_b4 := fun wx (h : Below W29.heap.size W29 wx) => row_next rb4 h
          have hq0 := fun wx (h : Below W29.heap.size W29 wx) => Below.next B0 h
          have hlive : IsLive x.h.hp c.c (c.c.slabs.getD k .zero) := by obtain ⟨v, hv, h2, h3⟩ := hlo.1 (by omega); exact ⟨v, hv, by rw [hXe.out]; exact h2, by omega⟩
          have hav := isLive_at hm hlive
          rw [hXe.out] at hav
          refine sx_held (fun wx => Below W29.heap.size W29 wx) [7] (by kernel_rfl) (by kernel_rfl) (blind_then (blind_in (blind_then (blind_then (blind_in (blind_then (blind_body))))))) ((Below.refl _ _).drew) ?_
          generalize hWd : ({ W29 with drawn := W29.drawn + 1 } : World) = W30
          have hdr := drawn_b9 hWd
          clear hWd
          have hS := hdr
          replace B0 := Below.next B0 hdr; replace rb1 := row_next rb1 hdr; replace rb4 := row_next rb4 hdr
          refine h_do f rfl rfl rfl rfl (y_loadN (vs := [_, _, _, _, _, _, _]) rfl rfl (ag rfl) rfl (rowls q_b1 _ _ ⟨rfl, rfl, rfl, rfl, rfl, rfl, rfl, trivial⟩)) ?_; clear f A; intro A f
          refine h_do f rfl rfl rfl rfl (y_loadN (vs := [_, _, _, _, _, _]) rfl rfl (ag rfl) rfl (rowls q_b4 _ _ ⟨rfl, rfl, rfl, rfl, rfl, rfl, trivial⟩)) ?_; clear f A; intro A f
          refine h_do f rfl rfl rfl rfl (y_field rfl rfl (fo rfl)) ?_; clear f A; intro A f
          refine h_do f rfl rfl rfl rfl (y_load1 rfl rfl (ag rfl) (rowl q_b4 rfl)) ?_; clear f A; intro A f
          refine h_do f rfl rfl rfl rfl (y_move rfl rfl) ?_; clear f A; intro A f
          refine h_do f rfl rfl rfl rfl (y_index rfl rfl (by first | rfl | assumption) rfl (es rfl) (by omega)) ?_; clear f A; intro A f
          refine h_do f rfl rfl rfl rfl (y_loadN (vs := [_, _, _]) rfl rfl (ag rfl) rfl ⟨(by first | assumption | exact St.c c0e hq0 | exact St.c c1e hq0 | exact St.c c2e hq0), (by first | assumption | exact St.c c0e hq0 | exact St.c c1e hq0 | exact St.c c2e hq0), (by first | assumption | exact St.c c0e hq0 | exact St.c c1e hq0 | exact St.c c2e hq0), trivial⟩) ?_; clear f A; intro A f
          refine h_call f rfl rfl rfl rfl (IsCall.mk' (cap := []) rfl rfl rfl) (pl rfl) (freeIn_any _ x c ⟨bae, boe, bte⟩ (hx.below B0) hs hper hav) ?_
          clear f A; rintro _ W31 ⟨⟨lo, ln, lc, r, rfl, hfr⟩, hb32⟩
          refine ⟨_, rfl, Below.next hS hb32, ?_⟩
          rcases hfr with ⟨rfl, l, hL, hch, hlo2, hob⟩ | ⟨rfl, hz, hck⟩
          ·intro A f
           replace B0 := Below.next B0 hb32; replace rb1 := row_next rb1 hb32; replace rb4 := row_next rb4 hb32
           have hck : ChainOk x.words c.c (c.c.slabs.getD k .zero) := by rw [hXe.out]; exact chainOk_of hch hlo2 hob
           refine h_do f rfl rfl rfl rfl (y_move rfl rfl) ?_; clear f A; intro A f
           refine h_do f rfl rfl rfl rfl (y_ext rfl rfl rfl) ?_; clear f A; intro A f
           refine h_do f rfl rfl rfl rfl (y_ext rfl rfl rfl) ?_; clear f A; intro A f
           refine h_do f rfl rfl rfl rfl (y_assign rfl rfl) ?_; clear f A; intro A f
           refine h_do f rfl rfl rfl rfl (y_assign rfl rfl) ?_; clear f A; intro A f
           refine h_nil ?_
           refine x_tn ?_
           refine wp_seq ?_
           refine sx_list ?_
           refine l_do f rfl rfl rfl (y_move rfl rfl) ?_; clear f A; intro A f
           refine l_do f rfl rfl rfl (y_not rfl rfl) ?_; clear f A; intro A f
           refine wpList_nil ?_
           refine x_tn ?_
           refine x_condF f rfl ?_
           refine wp_skip ?_
           refine x_bn ?_
           refine x_tn ?_
           refine sx_list ?_
           refine l_do f rfl rfl rfl (y_move rfl rfl) ?_; clear f A; intro A f
           refine l_do f rfl rfl rfl (y_add rfl rfl rfl rfl (by omega)) ?_; clear f A; intro A f
           refine l_do f rfl rfl rfl (y_assign rfl rfl) ?_; clear f A; intro A f
           refine wpList_nil ?_
           refine x_tn ?_
           refine ⟨c.sn - (k + 1), by omega, k + 1, rfl, by omega, f.sub ⟨rfl, rfl, rfl, rfl, trivial⟩, B0, rb1, rb4, fun i hi => ?_⟩
           by_cases e : i = k
           ·subst e; exact ⟨fun h => by omega, hlive, hck⟩
           ·exact hd i (by omega)
          ·intro A f
           replace B0 := Below.next B0 hb32; replace rb1 := row_next rb1 hb32; replace rb4 := row_next rb4 hb32
           replace hck : ¬ ChainOk x.words c.c (c.c.slabs.getD k .zero) := by rw [hXe.out]; exact hck
           refine h_do f rfl rfl rfl rfl (y_move rfl rfl) ?_; clear f A; intro A f
           refine h_do f rfl rfl rfl rfl (y_ext rfl rfl rfl) ?_; clear f A; intro A f
           refine h_do f rfl rfl rfl rfl (y_ext rfl rfl rfl) ?_; clear f A; intro A f
           refine h_do f rfl rfl rfl rfl (y_assign rfl rfl) ?_; clear f A; intro A f
           refine h_do f rfl rfl rfl rfl (y_assign rfl rfl) ?_; clear f A; intro A f
           refine h_nil ?_
           refine x_tn ?_
           refine wp_seq ?_
           refine sx_list ?_
           refine l_do f rfl rfl rfl (y_move rfl rfl) ?_; clear f A; intro A f
           refine l_do f rfl rfl rfl (y_not rfl rfl) ?_; clear f A; intro A f
           refine wpList_nil ?_
           refine x_tn ?_
           refine x_condT f rfl ?_
           refine wp_seq ?_
           refine sx_list ?_
           refine l_do f rfl rfl rfl (y_assign rfl rfl) ?_; clear f A; intro A f
           refine wpList_nil ?_
           refine x_tn ?_
           refine wp_ret ?_
           refine x_br ?_
           refine x_tr ?_
           refine x_tr ?_
           refine x_br ?_
           refine x_tr ?_
           refine x_ret1 f rfl rfl ?_
           exact ⟨retB_false (fun h => hck (h.slabs k (by omega)).2.2), B0⟩
       ·clear f A; intro c15 A f
        refine wpList_nil ?_
        refine x_tn ?_
        refine x_condF f rfl ?_
        refine wp_exit ?_
        refine x_te ?_
        refine x_te ?_
        refine x_bh ?_
        refine x_tn ?_
        refine wp_seq ?_
        refine wp_seq ?_
        refine sx_list ?_
        refine l_do f rfl rfl rfl (y_assign rfl rfl) ?_; clear f A; intro A f
        refine wpList_nil ?_
        refine x_tn ?_
        refine wp_block ?_
        have hke : k = c.sn := by omega
        refine x_loop (fun n A W => ∃ j : Nat, n = c.an - j ∧ j ≤ c.an ∧ Fr A 137 [(3, .pointer (some ⟨b4, 0, none⟩)), (11, .int .i64 (j : Nat))] ∧ Below w.heap.size w W ∧ W.heap[b1]? = some (.cells #[.slice x.wo x.wn x.wc, .slice x.h.zo x.h.zn x.h.zc, .slice x.h.mo x.h.mn x.h.mc, .int .i64 x.h.cpus, .slice x.h.lo x.h.ln x.h.lc, .slice x.h.vo x.h.vn x.h.vc, .slice x.co x.cn x.cc] 30 (0, 0)) ∧ W.heap[b4]? = some (.cells #[.slice c.no c.nn c.nc, .int .i64 c.c.size, .int .i64 c.c.per, .int .i64 c.c.order, .slice c.so c.sn c.sc, .slice c.ao c.an c.ac] 45 (0, 0)) ∧ ActTo c.c j) (n0 := c.an) (⟨0, rfl, Nat.zero_le _, f.sub ⟨rfl, rfl, trivial⟩, B0, rb1, rb4, fun i hi => absurd hi (Nat.not_lt_zero i)⟩) ?_
        clear f A
        clear B0 rb1 rb4
        rintro n1 A W33 ⟨j, hn1, hj, f, B0, rb1, rb4, hda⟩
        refine wp_seq ?_
        refine wp_seq ?_
        refine sx_list ?_
        refine l_do f rfl rfl rfl (y_move rfl rfl) ?_; clear f A; intro A f
        refine l_do f rfl rfl rfl (y_field rfl rfl (fo rfl)) ?_; clear f A; intro A f
        refine l_do f rfl rfl rfl (y_load1 rfl rfl (ag rfl) (rowl (rowq rb4) rfl)) ?_; clear f A; intro A f
        refine l_do f rfl rfl rfl (y_len rfl rfl (sl rfl)) ?_; clear f A; intro A f
        refine l_if _ f rfl rfl rfl (y_lss rfl rfl rfl) ?_ ?_
        ·clear f A; intro c34 A f
         refine wpList_nil ?_
         refine x_tn ?_
         refine x_condT f rfl ?_
         refine wp_skip ?_
         refine x_tn ?_
         refine wp_seq ?_
         refine wp_block ?_
         refine wp_seq ?_
         refine wp_seq ?_
         refine sx_list ?_
         refine l_do f rfl rfl rfl (y_field rfl rfl (fo rfl)) ?_; clear f A; intro A f
         refine l_do f rfl rfl rfl (y_load1 rfl rfl (ag rfl) (rowl (rowq rb4) rfl)) ?_; clear f A; intro A f
         refine l_do f rfl rfl rfl (y_move rfl rfl) ?_; clear f A; intro A f
         obtain ⟨gv, ov, vv, hav, c0v, hXv⟩ := hc.act.at_.at (j) (by have := hc.act.len; omega)
         replace c0v := St.of c0v
         rw [show ov + j = ov + j * 1 by omega] at c0v
         refine l_do f rfl rfl rfl (y_index rfl rfl (by first | rfl | assumption) rfl (es rfl) (by omega)) ?_; clear f A; intro A f
         refine l_do f rfl rfl rfl (y_load1 rfl rfl (ag rfl) (by first | assumption | exact St.q c0v B0)) ?_; clear f A; intro A f
         refine l_if _ f rfl rfl rfl (y_eql rfl rfl rfl) ?_ ?_
         ·clear f A; intro c35 A f
          refine wpList_nil ?_
          refine x_tn ?_
          refine x_condT f rfl ?_
          refine wp_exit ?_
          refine x_te ?_
          refine x_bh ?_
          refine x_tn ?_
          refine sx_list ?_
          refine l_do f rfl rfl rfl (y_move rfl rfl) ?_; clear f A; intro A f
          refine l_do f rfl rfl rfl (y_add rfl rfl rfl rfl (by omega)) ?_; clear f A; intro A f
          refine l_do f rfl rfl rfl (y_assign rfl rfl) ?_; clear f A; intro A f
          refine wpList_nil ?_
          refine x_tn ?_
          exact ⟨c.an - (j + 1), by omega, j + 1, rfl, by omega, f.sub ⟨rfl, rfl, trivial⟩, B0, rb1, rb4, act_skip hXv.out c35 hda⟩
         ·clear f A; intro c35 A f
          refine wpList_nil ?_
          refine x_tn ?_
          refine x_condF f rfl ?_
          refine wp_skip ?_
          refine x_tn ?_
          refine wp_seq ?_
          refine wp_seq ?_
          refine sx_quiet (by kernel_rfl) (by kernel_rfl) ?_
          refine q_do f rfl rfl rfl (y_loadN (vs := [_, _, _, _, _, _]) rfl rfl (ag rfl) rfl (rowls (rowq rb4) _ _ ⟨rfl, rfl, rfl, rfl, rfl, rfl, trivial⟩)) ?_; clear f A; intro A f
          refine q_do f rfl rfl rfl (y_field rfl rfl (fo rfl)) ?_; clear f A; intro A f
          refine q_do f rfl rfl rfl (y_load1 rfl rfl (ag rfl) (rowl (rowq rb4) rfl)) ?_; clear f A; intro A f
          refine q_do f rfl rfl rfl (y_move rfl rfl) ?_; clear f A; intro A f
          refine q_do f rfl rfl rfl (y_index rfl rfl (by first | rfl | assumption) rfl (es rfl) (by omega)) ?_; clear f A; intro A f
          refine q_do f rfl rfl rfl (y_load1 rfl rfl (ag rfl) (by first | assumption | exact St.q c0v B0)) ?_; clear f A; intro A f
          refine q_call f rfl rfl rfl (IsCall.mk' (cap := []) rfl rfl rfl) (pl rfl) (c_clb fun wx hw => slabAt_c wx c vv ((hc.slabs.below B0).below hw)) ?_; clear f A; intro A f
          refine q_if _ f rfl rfl rfl (y_lss rfl rfl rfl) ?_ ?_
          ·clear f A; intro c36 A f
           refine wpQuiet_nil ?_; intro W38 hb37; replace B0 := Below.next B0 hb37; replace rb1 := row_next rb1 hb37; replace rb4 := row_next rb4 hb37
           refine x_tn ?_
           refine x_condT f rfl ?_
           refine wp_seq ?_
           refine sx_list ?_
           refine l_do f rfl rfl rfl (y_assign rfl rfl) ?_; clear f A; intro A f
           refine wpList_nil ?_
           refine x_tn ?_
           refine wp_ret ?_
           refine x_tr ?_
           refine x_br ?_
           refine x_tr ?_
           refine x_tr ?_
           refine x_br ?_
           refine x_tr ?_
           refine x_ret1 f rfl rfl ?_
           exact ⟨retB_false (fun h => slabI_iff.1 c36 ((h.act.2 j (by omega) (by rw [hXv.out]; assumption)).1.elim fun b hb => ⟨b, hb.1, by rw [hb.2, hXv.out]⟩)), B0⟩
          ·clear f A; intro c36 A f
           refine wpQuiet_nil ?_; intro W40 hb39; replace B0 := Below.next B0 hb39; replace rb1 := row_next rb1 hb39; replace rb4 := row_next rb4 hb39
           refine x_tn ?_
           refine x_condF f rfl ?_
           refine wp_skip ?_
           refine x_tn ?_
           refine wp_seq ?_
           refine sx_list ?_
           refine l_do f rfl rfl rfl (y_assign rfl rfl) ?_; clear f A; intro A f
           refine wpList_nil ?_
           refine x_tn ?_
           refine wp_block ?_
           refine x_loop (fun n A W => ∃ i : Nat, n = j - i ∧ i ≤ j ∧ Fr A 137 [(3, .pointer (some ⟨b4, 0, none⟩)), (11, .int .i64 (j : Nat)), (12, .int .i64 (i : Nat))] ∧ Below w.heap.size w W ∧ W.heap[b1]? = some (.cells #[.slice x.wo x.wn x.wc, .slice x.h.zo x.h.zn x.h.zc, .slice x.h.mo x.h.mn x.h.mc, .int .i64 x.h.cpus, .slice x.h.lo x.h.ln x.h.lc, .slice x.h.vo x.h.vn x.h.vc, .slice x.co x.cn x.cc] 30 (0, 0)) ∧ W.heap[b4]? = some (.cells #[.slice c.no c.nn c.nc, .int .i64 c.c.size, .int .i64 c.c.per, .int .i64 c.c.order, .slice c.so c.sn c.sc, .slice c.ao c.an c.ac] 45 (0, 0)) ∧ ∀ q, q < i → c.c.act.getD q 0 ≠ vv) (n0 := j) (⟨0, rfl, Nat.zero_le _, f.sub ⟨rfl, rfl, rfl, trivial⟩, B0, rb1, rb4, fun q hq => absurd hq (Nat.not_lt_zero q)⟩) ?_
           clear f A
           clear B0 rb1 rb4
           rintro n2 A W41 ⟨i, hn2, hi, f, B0, rb1, rb4, hno⟩
           refine wp_seq ?_
           refine wp_seq ?_
           refine sx_list ?_
           refine l_do f rfl rfl rfl (y_move rfl rfl) ?_; clear f A; intro A f
           refine l_do f rfl rfl rfl (y_move rfl rfl) ?_; clear f A; intro A f
           refine l_if _ f rfl rfl rfl (y_lss rfl rfl rfl) ?_ ?_
           ·clear f A; intro c42 A f
            refine wpList_nil ?_
            refine x_tn ?_
            refine x_condT f rfl ?_
            refine wp_skip ?_
            refine x_tn ?_
            refine wp_seq ?_
            refine wp_block ?_
            refine wp_seq ?_
            refine sx_quiet (by kernel_rfl) (by kernel_rfl) ?_
            refine q_do f rfl rfl rfl (y_field rfl rfl (fo rfl)) ?_; clear f A; intro A f
            refine q_do f rfl rfl rfl (y_load1 rfl rfl (ag rfl) (rowl (rowq rb4) rfl)) ?_; clear f A; intro A f
            refine q_do f rfl rfl rfl (y_move rfl rfl) ?_; clear f A; intro A f
            obtain ⟨gu, ou, vu, hau, c0u, hXu⟩ := hc.act.at_.at (i) (by have := hc.act.len; omega)
            replace c0u := St.of c0u
            rw [show ou + i = ou + i * 1 by omega] at c0u
            rw [hav] at hau; simp only [Option.some.injEq, Addr.mk.injEq, and_true] at hau; obtain ⟨rfl, rfl⟩ := hau
            refine q_do f rfl rfl rfl (y_index rfl rfl (by first | rfl | assumption) rfl (es rfl) (by omega)) ?_; clear f A; intro A f
            refine q_do f rfl rfl rfl (y_load1 rfl rfl (ag rfl) (by first | assumption | exact St.q c0v B0 | exact St.q c0u B0)) ?_; clear f A; intro A f
            refine q_do f rfl rfl rfl (y_field rfl rfl (fo rfl)) ?_; clear f A; intro A f
            refine q_do f rfl rfl rfl (y_load1 rfl rfl (ag rfl) (rowl (rowq rb4) rfl)) ?_; clear f A; intro A f
            refine q_do f rfl rfl rfl (y_move rfl rfl) ?_; clear f A; intro A f
            refine q_do f rfl rfl rfl (y_index rfl rfl (by first | rfl | assumption) rfl (es rfl) (by omega)) ?_; clear f A; intro A f
            refine q_do f rfl rfl rfl (y_load1 rfl rfl (ag rfl) (by first | assumption | exact St.q c0v B0 | exact St.q c0u B0)) ?_; clear f A; intro A f
            refine q_if _ f rfl rfl rfl (y_eql rfl rfl rfl) ?_ ?_
            ·clear f A; intro c43 A f
             refine wpQuiet_nil ?_; intro W45 hb44; replace B0 := Below.next B0 hb44; replace rb1 := row_next rb1 hb44; replace rb4 := row_next rb4 hb44
             refine x_tn ?_
             refine x_condT f rfl ?_
             refine wp_seq ?_
             refine sx_list ?_
             refine l_do f rfl rfl rfl (y_assign rfl rfl) ?_; clear f A; intro A f
             refine wpList_nil ?_
             refine x_tn ?_
             refine wp_ret ?_
             refine x_br ?_
             refine x_tr ?_
             refine x_tr ?_
             refine x_br ?_
             refine x_br ?_
             refine x_tr ?_
             refine x_tr ?_
             refine x_br ?_
             refine x_tr ?_
             refine x_ret1 f rfl rfl ?_
             exact ⟨retB_false (fun h => (h.act.2 j (by omega) (by rw [hXv.out]; assumption)).2 i (by omega) (by rw [hXu.out, hXv.out]; exact c43)), B0⟩
            ·clear f A; intro c43 A f
             refine wpQuiet_nil ?_; intro W47 hb46; replace B0 := Below.next B0 hb46; replace rb1 := row_next rb1 hb46; replace rb4 := row_next rb4 hb46
             refine x_tn ?_
             refine x_condF f rfl ?_
             refine wp_skip ?_
             refine x_bn ?_
             refine x_tn ?_
             refine sx_list ?_
             refine l_do f rfl rfl rfl (y_move rfl rfl) ?_; clear f A; intro A f
             refine l_do f rfl rfl rfl (y_add rfl rfl rfl rfl (by omega)) ?_; clear f A; intro A f
             refine l_do f rfl rfl rfl (y_assign rfl rfl) ?_; clear f A; intro A f
             refine wpList_nil ?_
             refine x_tn ?_
             exact ⟨j - (i + 1), by omega, i + 1, rfl, by omega, f.sub ⟨rfl, rfl, rfl, trivial⟩, B0, rb1, rb4, fun q hq => by by_cases e : q = i; (subst e; rw [hXu.out]; assumption); exact hno q (by omega)⟩
           ·clear f A; intro c42 A f
            refine wpList_nil ?_
            refine x_tn ?_
            refine x_condF f rfl ?_
            refine wp_exit ?_
            refine x_te ?_
            refine x_te ?_
            refine x_bh ?_
            refine x_bn ?_
            refine x_tn ?_
            refine sx_list ?_
            refine l_do f rfl rfl rfl (y_move rfl rfl) ?_; clear f A; intro A f
            refine l_do f rfl rfl rfl (y_add rfl rfl rfl rfl (by omega)) ?_; clear f A; intro A f
            refine l_do f rfl rfl rfl (y_assign rfl rfl) ?_; clear f A; intro A f
            refine wpList_nil ?_
            refine x_tn ?_
            exact ⟨c.an - (j + 1), by omega, j + 1, rfl, by omega, f.sub ⟨rfl, rfl, trivial⟩, B0, rb1, rb4, act_add hXv.out (slabI_has c36) (fun i hi => hno i (by omega)) hda⟩
        ·clear f A; intro c34 A f
         refine wpList_nil ?_
         refine x_tn ?_
         refine x_condF f rfl ?_
         refine wp_exit ?_
         refine x_te ?_
         refine x_te ?_
         refine x_bh ?_
         refine x_tn ?_
         refine wp_seq ?_
         refine sx_list ?_
         refine l_do f rfl rfl rfl (y_assign rfl rfl) ?_; clear f A; intro A f
         refine wpList_nil ?_
         refine x_tn ?_
         refine wp_ret ?_
         refine x_ret1 f rfl rfl ?_
         have hje : j = c.an := by omega
         subst hje
         exact ⟨retB_true ⟨hs, hord, hper, by have := hc.names.len; omega, fun k hk => hd k (by omega), ⟨by omega, fun i hi h => hda i (by omega) h⟩⟩, B0⟩
 ·refine ⟨_, rfl, ?_⟩
  intro A f
  replace B0 := Below.next B0 hb8; replace rb1 := row_next rb1 hb8; replace rb4 := row_next rb4 hb8
  refine l_do f rfl rfl rfl (y_move rfl rfl) ?_; clear f A; intro A f
  refine l_do f rfl rfl rfl (y_ext rfl rfl rfl) ?_; clear f A; intro A f
  refine l_do f rfl rfl rfl (y_ext rfl rfl rfl) ?_; clear f A; intro A f
  refine l_do f rfl rfl rfl (y_ext rfl rfl rfl) ?_; clear f A; intro A f
  refine l_do f rfl rfl rfl (y_assign rfl rfl) ?_; clear f A; intro A f
  refine l_do f rfl rfl rfl (y_assign rfl rfl) ?_; clear f A; intro A f
  refine l_do f rfl rfl rfl (y_assign rfl rfl) ?_; clear f A; intro A f
  refine wpList_nil ?_
  refine x_tn ?_
  refine wp_seq ?_
  refine wp_seq ?_
  refine sx_list ?_
  refine l_do f rfl rfl rfl (y_move rfl rfl) ?_; clear f A; intro A f
  refine l_if _ f rfl rfl rfl (y_neq rfl rfl rfl) ?_ ?_
  ·clear f A; intro c48 A f
   refine l_do f rfl rfl rfl (y_move rfl rfl) ?_; clear f A; intro A f
   refine l_no f rfl rfl rfl ?_; clear f A; intro A f
   refine l_no f rfl rfl rfl ?_; clear f A; intro A f
   refine l_no f rfl rfl rfl ?_; clear f A; intro A f
   refine l_no f rfl rfl rfl ?_; clear f A; intro A f
   refine l_do f rfl rfl rfl (y_pick rfl rfl rfl) ?_; clear f A; intro A f
   refine l_do f rfl rfl rfl (y_move rfl rfl) ?_; clear f A; intro A f
   refine l_no f rfl rfl rfl ?_; clear f A; intro A f
   refine l_no f rfl rfl rfl ?_; clear f A; intro A f
   refine l_no f rfl rfl rfl ?_; clear f A; intro A f
   refine l_no f rfl rfl rfl ?_; clear f A; intro A f
   refine l_do f rfl rfl rfl (y_pick rfl rfl rfl) ?_; clear f A; intro A f
   refine l_do f rfl rfl rfl (y_move rfl rfl) ?_; clear f A; intro A f
   refine l_no f rfl rfl rfl ?_; clear f A; intro A f
   refine l_no f rfl rfl rfl ?_; clear f A; intro A f
   refine l_no f rfl rfl rfl ?_; clear f A; intro A f
   refine l_no f rfl rfl rfl ?_; clear f A; intro A f
   refine l_do f rfl rfl rfl (y_pick rfl rfl rfl) ?_; clear f A; intro A f
   refine l_do f rfl rfl rfl (y_move rfl rfl) ?_; clear f A; intro A f
   refine l_no f rfl rfl rfl ?_; clear f A; intro A f
   refine l_no f rfl rfl rfl ?_; clear f A; intro A f
   refine l_no f rfl rfl rfl ?_; clear f A; intro A f
   refine l_no f rfl rfl rfl ?_; clear f A; intro A f
   refine l_no f rfl rfl rfl ?_; clear f A; intro A f
   refine l_no f rfl rfl rfl ?_; clear f A; intro A f
   refine l_no f rfl rfl rfl ?_; clear f A; intro A f
   refine l_do f rfl rfl rfl (y_pick rfl rfl rfl) ?_; clear f A; intro A f
   refine wpList_nil ?_
   refine x_tn ?_
   refine x_condT f rfl ?_
   refine wp_seq ?_
   refine sx_list ?_
   refine l_do f rfl rfl rfl (y_assign rfl rfl) ?_; clear f A; intro A f
   refine wpList_nil ?_
   refine x_tn ?_
   refine wp_ret ?_
   refine x_tr ?_
   refine x_ret1 f rfl rfl ?_
   exact ⟨retB_false (fun h => hs h.size), B0⟩
  ·intro c48; exfalso; omega
def upTo {α : Type} (g : Ch → List α) (l : List Cc) (k : Nat) : List α := (l.take k).flatMap (fun c => g c.c)
theorem snoc_take {α : Type} (l : List α) (d : α) {k : Nat} (h : k < l.length) : l.take (k + 1) = l.take k ++ [l.getD k d] := by
 rw [List.take_add_one, List.getD_eq_getElem?_getD, List.getElem?_eq_getElem h]
 rfl
theorem upTo_zero {α : Type} (g : Ch → List α) (l : List Cc) : upTo g l 0 = [] := by simp [upTo]
theorem upTo_succ {α : Type} (g : Ch → List α) (l : List Cc) {k : Nat} (h : k < l.length) : upTo g l (k + 1) = upTo g l k ++ g (l.getD k .zero).c := by
 unfold upTo
 rw [snoc_take l .zero h, List.flatMap_append]
 simp
theorem upTo_all {α : Type} (g : Ch → List α) (l : List Cc) : upTo g l l.length = (l.map (·.c)).flatMap g := by
 unfold upTo
 rw [List.take_length, List.flatMap_map]
theorem upTo_sub {α : Type} (g : Ch → List α) (l : List Cc) (k : Nat) : (upTo g l k).Sublist ((l.map (·.c)).flatMap g) := by
 rw [List.flatMap_map]
 unfold upTo
 have := (List.take_append_drop k l)
 conv => rhs; rw [← this]
 rw [List.flatMap_append]
 exact List.sublist_append_left _ _
theorem upTo_step {α : Type} (g : Ch → List α) (l : List Cc) (d : α) {k j : Nat} {x : α} {y : List α} (hx : y.getD j d = x) (hj : j < y.length) : upTo g l k ++ y.take (j + 1) = (upTo g l k ++ y.take j) ++ [x] := by
 rw [snoc_take y d hj, hx, List.append_assoc]
theorem upTo_twice {α : Type} (g : Ch → List α) (l : List Cc) (d : α) {k j : Nat} {x : α} {y : List α} (hk : k < l.length) (hy : g (l.getD k .zero).c = y) (hx : y.getD j d = x) (hj : j < y.length) (hn : ((l.map (·.c)).flatMap g).Nodup) (hm : x ∈ upTo g l k ++ y.take j) : False := by
 have h1 := hn.sublist (upTo_sub g l (k + 1))
 rw [upTo_succ g l hk, hy] at h1
 have h2 : (upTo g l k ++ y.take (j + 1)).Nodup := h1.sublist ((List.Sublist.refl _).append (List.take_sublist _ _))
 rw [upTo_step g l d hx hj, List.nodup_append] at h2
 exact h2.2.2 x hm x (List.mem_singleton.2 rfl) rfl
theorem upTo_more {α : Type} (g : Ch → List α) (l : List Cc) (d : α) {k j : Nat} {x : α} {y : List α} (hx : y.getD j d = x) (hj : j < y.length) (hn : (upTo g l k ++ y.take j).Nodup) (hm : x ∉ upTo g l k ++ y.take j) : (upTo g l k ++ y.take (j + 1)).Nodup := by
 rw [upTo_step g l d hx hj, List.nodup_append]
 exact ⟨hn, by simp, fun a ha b hb e => hm (by rw [List.mem_singleton] at hb; rw [← hb, ← e]; exact ha)⟩
theorem upTo_end {α : Type} (g : Ch → List α) (l : List Cc) {k : Nat} {y : List α} (hk : k < l.length) (hy : g (l.getD k .zero).c = y) : upTo g l k ++ y.take y.length = upTo g l (k + 1) := by
 rw [upTo_succ g l hk, hy, List.take_length]
def NTo (l : List Cc) (k : Nat) : Prop := ∀ i, i < k → (∀ n ∈ (l.getD i .zero).c.names, NameOk n) ∧ Rise (l.getD i .zero).c.names
def NIn (y : List ByteArray) (j : Nat) : Prop := ∀ i, i < j → NameOk (y.getD i default) ∧ (0 < i → strLe (y.getD i default) (y.getD (i - 1) default) = false)
theorem NTo.zero (l : List Cc) : NTo l 0 := fun _ h => absurd h (Nat.not_lt_zero _)
theorem NIn.zero (y : List ByteArray) : NIn y 0 := fun _ h => absurd h (Nat.not_lt_zero _)
theorem NIn.put {y : List ByteArray} {j : Nat} {x last : ByteArray} (h : NIn y j) (hx : y.getD j default = x) (hok : NameOk x) (hl : 0 < j → last = y.getD (j - 1) default) (hr : ¬ strLe x last = true) : NIn y (j + 1) := by
 intro i hi
 by_cases e : i = j
 ·subst e
  refine ⟨by rw [hx]; exact hok, fun h0 => ?_⟩
  rw [hx, ← hl h0]
  exact Bool.eq_false_iff.2 hr
 ·exact h i (by omega)
theorem NTo.put {l : List Cc} {k : Nat} {y : List ByteArray} (h : NTo l k) (hy : (l.getD k .zero).c.names = y) (hn : NIn y y.length) : NTo l (k + 1) := by
 intro i hi
 by_cases e : i = k
 ·subst e
  rw [hy]
  refine ⟨fun n hm => ?_, fun j hj h0 => (hn j hj).2 h0⟩
  obtain ⟨j, hj, rfl⟩ := List.getElem_of_mem hm
  have := (hn j hj).1
  rwa [List.getD_eq_getElem?_getD, List.getElem?_eq_getElem hj] at this
 ·exact h i (by omega)
theorem strLe_empty {x : ByteArray} (h : NameOk x) : ¬ strLe x ⟨#[]⟩ = true := by
 have h0 := h.lo
 have hl : x.toList.length = x.size := by rw [ByteArray.toList_eq]; rfl
 have he : (⟨#[]⟩ : ByteArray).toList = [] := by rw [ByteArray.toList_eq]
 unfold strLe
 rw [he]
 cases hx : x.toList with
 | nil => rw [hx] at hl; simp at hl; omega
 | cons a t => simp [Op.bytesLess]
theorem namesMay_of {l : List Cc} {n : Nat} (hl : l.length = n) (h : NTo l n) (hd : (upTo Ch.names l n).Nodup) : NamesMay (l.map (·.c)) := by
 have key : ∀ c ∈ l.map (·.c), ∃ i, i < n ∧ (l.getD i .zero).c = c := by
  intro c hc
  obtain ⟨x, hx, rfl⟩ := List.mem_map.1 hc
  obtain ⟨i, hi, rfl⟩ := List.getElem_of_mem hx
  exact ⟨i, by omega, by rw [List.getD_eq_getElem?_getD, List.getElem?_eq_getElem hi]; rfl⟩
 refine ⟨fun c hc => ?_, fun c hc => ?_, ?_⟩
 ·obtain ⟨i, hi, rfl⟩ := key c hc; exact (h i hi).1
 ·obtain ⟨i, hi, rfl⟩ := key c hc; exact (h i hi).2
 ·rw [← upTo_all, hl]; exact hd
theorem namesMay_at {l : List Cc} {k : Nat} (h : NamesMay (l.map (·.c))) (hk : k < l.length) : (∀ n ∈ (l.getD k .zero).c.names, NameOk n) ∧ Rise (l.getD k .zero).c.names := by
 have hm : (l.getD k .zero).c ∈ l.map (·.c) := List.mem_map_of_mem (getD_mem (d := Cc.zero) hk)
 exact ⟨h.ok _ hm, h.up _ hm⟩
theorem nodup_snoc {α : Type} {l : List α} {x : α} (h : l.Nodup) (hn : x ∉ l) : (l ++ [x]).Nodup := by
 rw [List.nodup_append]
 exact ⟨h, by simp, fun a ha b hb e => hn (by rw [List.mem_singleton] at hb; rw [← hb, ← e]; exact ha)⟩
theorem pages_at {l : List Bk} {j : Nat} {a o t : Int} (hj : j < l.length) (h : l.getD j .zero = ⟨a, o, t⟩) : (l.map (·.a)).getD j 0 = a := by
 rw [List.getD_eq_getElem?_getD, List.getElem?_eq_getElem hj] at h
 rw [List.getD_eq_getElem?_getD, List.getElem?_map, List.getElem?_eq_getElem hj]
 exact congrArg Bk.a h
theorem flat_one (l : List Ch) : l.flatMap (fun c => [c.size]) = l.map (·.size) := by
 induction l with
 | nil => rfl
 | cons a t ih => rw [List.flatMap_cons, ih]; rfl
theorem unlike_of {l : List Cc} {n : Nat} (hl : l.length = n) (h1 : (upTo (fun c => [c.size]) l n).Nodup) (h2 : (upTo (fun c => c.slabs.map (·.a)) l n).Nodup) : Unlike (l.map (·.c)) := by
 rw [← hl, upTo_all] at h1 h2
 refine ⟨?_, h2⟩
 have e := flat_one (l.map (·.c))
 rwa [e] at h1
theorem unlike_size {l : List Cc} (h : Unlike (l.map (·.c))) : ((l.map (·.c)).flatMap (fun c => [c.size])).Nodup := by
 have e := flat_one (l.map (·.c))
 rw [e]; exact h.size
theorem inj_le {α : Type} (f : α → Nat) {l : List α} (h : l.Nodup) : ∀ m : List Nat, (∀ x ∈ l, f x ∈ m) → (∀ x ∈ l, ∀ y ∈ l, f x = f y → x = y) → l.length ≤ m.length := by
 induction l with
 | nil => intro m _ _; exact Nat.zero_le _
 | cons a l ih =>
  intro m hm hi
  have h2 := List.nodup_cons.1 h
  have ha := hm a (List.mem_cons.2 (.inl rfl))
  have := ih h2.2 (m.erase (f a)) (fun x hx => (List.mem_erase_of_ne (fun e => h2.1 (by
   have := hi x (List.mem_cons.2 (.inr hx)) a (List.mem_cons.2 (.inl rfl)) e
   rw [← this]; exact hx))).2 (hm x (List.mem_cons.2 (.inr hx)))) (fun x hx y hy => hi x (List.mem_cons.2 (.inr hx)) y (List.mem_cons.2 (.inr hy)))
  rw [List.length_erase_of_mem ha] at this
  have h0 : 0 < m.length := List.length_pos_of_mem ha
  simp only [List.length_cons]
  omega
abbrev szs (c : Ch) : List Int := [c.size]
abbrev pgs (c : Ch) : List Int := c.slabs.map (·.a)
def dig (b : UInt8) : Nat := if 97 ≤ b.toNat then b.toNat - 96 else b.toNat - 21
def enc : List UInt8 → Nat
 | [] => 0
 | b :: t => dig b + 37 * enc t
theorem dig_in {b : UInt8} (h : byteOk b) : 1 ≤ dig b ∧ dig b ≤ 36 := by
 unfold byteOk at h
 unfold dig
 split <;> omega
theorem dig_inj {a b : UInt8} (ha : byteOk a) (hb : byteOk b) (h : dig a = dig b) : a = b := by
 unfold byteOk at ha hb
 unfold dig at h
 apply UInt8.toNat_inj.1
 split at h <;> split at h <;> omega
theorem enc_lt : ∀ {l : List UInt8}, (∀ b ∈ l, byteOk b) → enc l < 37 ^ l.length
 | [], _ => by simp [enc]
 | b :: t, h => by
  have h1 := dig_in (h b (List.mem_cons.2 (.inl rfl)))
  have h2 := enc_lt (l := t) (fun x hx => h x (List.mem_cons.2 (.inr hx)))
  unfold enc
  rw [List.length_cons, Nat.pow_succ]
  omega
theorem enc_inj : ∀ {l m : List UInt8}, (∀ b ∈ l, byteOk b) → (∀ b ∈ m, byteOk b) → enc l = enc m → l = m
 | [], [], _, _, _ => rfl
 | [], b :: t, _, h, e => by
  have h1 := dig_in (h b (List.mem_cons.2 (.inl rfl)))
  unfold enc at e
  omega
 | b :: t, [], h, _, e => by
  have h1 := dig_in (h b (List.mem_cons.2 (.inl rfl)))
  unfold enc at e
  omega
 | a :: t, b :: u, h, h', e => by
  have ha := h a (List.mem_cons.2 (.inl rfl))
  have hb := h' b (List.mem_cons.2 (.inl rfl))
  have h1 := dig_in ha
  have h2 := dig_in hb
  unfold enc at e
  have e1 : dig a = dig b := by omega
  have e2 : enc t = enc u := by omega
  rw [dig_inj ha hb e1, enc_inj (fun x hx => h x (List.mem_cons.2 (.inr hx))) (fun x hx => h' x (List.mem_cons.2 (.inr hx))) e2]
theorem name_bytes {s : ByteArray} (h : NameOk s) : ∀ b ∈ s.data.toList, byteOk b := by
 intro b hb
 obtain ⟨i, hi, rfl⟩ := List.getElem_of_mem hb
 have hi2 : i < s.data.size := by simpa using hi
 have := h.at_ i hi2
 rwa [Array.getD_eq_getD_getElem?, Array.getElem?_eq_getElem hi2] at this
theorem names_few {l : List ByteArray} (hn : l.Nodup) (h : ∀ s ∈ l, NameOk s) : l.length ≤ 3512479453921 := by
 have := inj_le (fun s : ByteArray => enc s.data.toList) hn (List.range 3512479453921) (fun s hs => by
  rw [List.mem_range]
  have h1 := enc_lt (name_bytes (h s hs))
  have h2 : s.data.toList.length ≤ 8 := by have := (h s hs).hi; simpa using this
  exact Nat.lt_of_lt_of_le h1 (Nat.le_trans (Nat.pow_le_pow_right (by omega) h2) (by decide))) (fun s hs t ht e => by
  have := enc_inj (name_bytes (h s hs)) (name_bytes (h t ht)) e
  cases s; cases t
  congr 1
  exact Array.toList_inj.1 this)
 rwa [List.length_range] at this
theorem pages_few {l : List Int} (hn : l.Nodup) (h : ∀ x ∈ l, 0 ≤ x ∧ x < 256) : l.length ≤ 256 := by
 have := inj_le Int.toNat hn (List.range 256) (fun x hx => by rw [List.mem_range]; have := h x hx; omega) (fun x hx y hy e => by have := h x hx; have := h y hy; omega)
 rwa [List.length_range] at this
theorem upTo_mem {α : Type} {g : Ch → List α} {l : List Cc} {k : Nat} {x : α} (hk : k ≤ l.length) : x ∈ upTo g l k ↔ ∃ i, i < k ∧ x ∈ g (l.getD i .zero).c := by
 unfold upTo
 rw [List.mem_flatMap]
 constructor
 ·rintro ⟨c, hc, hx⟩
  obtain ⟨i, hi, rfl⟩ := List.getElem_of_mem hc
  have hi2 : i < k := by rw [List.length_take] at hi; omega
  refine ⟨i, hi2, ?_⟩
  rw [List.getD_eq_getElem?_getD, List.getElem?_eq_getElem (show i < l.length by omega)]
  simpa using hx
 ·rintro ⟨i, hi, hx⟩
  have hi2 : i < l.length := by omega
  refine ⟨l[i], ?_, ?_⟩
  ·rw [List.mem_take_iff_getElem]
   exact ⟨i, by omega, rfl⟩
  ·rwa [List.getD_eq_getElem?_getD, List.getElem?_eq_getElem hi2] at hx
theorem names_ok {l : List Cc} {k j : Nat} {y : List ByteArray} (hk : k ≤ l.length) (h : NTo l k) (hj : NIn y j) : ∀ s ∈ upTo Ch.names l k ++ y.take j, NameOk s := by
 intro s hs
 rcases List.mem_append.1 hs with hs | hs
 ·obtain ⟨i, hi, hx⟩ := (upTo_mem hk).1 hs
  exact (h i hi).1 s hx
 ·obtain ⟨i, hi, rfl⟩ := List.getElem_of_mem hs
  rw [List.length_take] at hi
  have := (hj i (by omega)).1
  rw [List.getD_eq_getElem?_getD, List.getElem?_eq_getElem (show i < y.length by omega)] at this
  simpa using this
theorem pages_in {l : List Cc} {k j : Nat} {x : Sy} {y : List Bk} {c : Ch} (hm : HMay x.h.hp) (hk : k ≤ l.length) (h : ∀ i, i < k → ChMay x.words x.h.hp (l.getD i .zero).c) (hc : ChMay x.words x.h.hp c) (hy : c.slabs = y) : ∀ p ∈ upTo pgs l k ++ (y.map (·.a)).take j, 0 ≤ p ∧ p < 256 := by
 have key : ∀ c : Ch, ChMay x.words x.h.hp c → ∀ p ∈ c.slabs.map (·.a), 0 ≤ p ∧ p < 256 := by
  intro c hc p hp
  obtain ⟨b, hb, rfl⟩ := List.mem_map.1 hp
  obtain ⟨i, hi, rfl⟩ := List.getElem_of_mem hb
  have := isLive_at hm (hc.slabs i hi).2.1
  rwa [List.getD_eq_getElem?_getD, List.getElem?_eq_getElem hi] at this
 intro p hp
 rcases List.mem_append.1 hp with hp | hp
 ·obtain ⟨i, hi, hx⟩ := (upTo_mem hk).1 hp
  exact key _ (h i hi) p hx
 ·exact key c hc p (by rw [hy]; exact List.mem_of_mem_take hp)
def Dis (a b : Option Addr) : Prop := ∀ q, q ∈ blkA a → q ∉ blkA b
theorem Dis.symm {a b : Option Addr} (h : Dis a b) : Dis b a := fun q h1 h2 => h q h2 h1
theorem new_not {uo : Option Addr} {g N b : Nat} (h : uo = some ⟨g, 0, none⟩ ∨ g = N) (hb : b ∉ blkA uo) (hN : b < N) : b ∉ blkA (some ⟨g, 0, none⟩) := by
 rcases h with h | h
 ·rw [← h]; exact hb
 ·intro hm
  obtain ⟨x, hx, rfl⟩ := mem_blkA.1 hm
  cases hx
  simp only at hN
  omega
theorem new_dis {uo vo : Option Addr} {g N : Nat} (h : uo = some ⟨g, 0, none⟩ ∨ g = N) (hd : Dis uo vo) (hv : ∀ q ∈ blkA vo, q < N) : Dis (some ⟨g, 0, none⟩) vo := by
 rcases h with h | h
 ·rw [← h]; exact hd
 ·intro q hq hq2
  obtain ⟨x, hx, rfl⟩ := mem_blkA.1 hq
  cases hx
  have := hv _ hq2
  simp only at this
  omega
theorem y_leqS {P : Program} {C : World → Prop} {L : List (Nat × Value)} {o : Oper} {t u : TypeId} {x y : Operand} {a b : ByteArray} (ho : o.op = .binOp .leq t x y u) (hx : ev L x = some (.string a)) (hy : ev L y = some (.string b)) : YC P C L o (.bool (decide (strLe a b = true))) := by
 intro ρ hρ wx _
 rw [Bool.decide_eq_true]
 simp [execOp, ho, hρ _ _ hx, hρ _ _ hy, eqGuard, binOp, Op.stringOp, strLe, go_sem]
theorem slNamesMay_any (w : World) (co : Option Addr) (cn cc : Nat) (l : List Cc) (h : Chs w co cn l) (few : cn ≤ 20) :
    Calls Try.prog 14 #[.slice co cn cc] w fun e w' => RetB e (NamesMay (l.map (·.c))) ∧ Below w.heap.size w w' := by
 have hcl := h.len
 have B0 := Below.refl w.heap.size w
 refine sx_enter (args := [_]) 47 Try.func14 rfl rfl rfl ?_
 intro A f
 refine wp_seq ?_
 refine sx_list ?_
 refine l_do f rfl rfl rfl (y_assign rfl rfl) ?_; clear f A; intro A f
 refine wpList_nil ?_
 refine x_tn ?_
 refine wp_seq ?_
 refine sx_list ?_
 refine l_mkMap f rfl rfl rfl rfl ?_; clear f A; intro b1 W2 eb1 hb3 ltb1 HM A f
 have z_B0_b1 := B0.size; rw [eb1] at z_B0_b1
 replace B0 := Below.next B0 hb3
 refine l_do f rfl rfl rfl (y_assign rfl rfl) ?_; clear f A; intro A f
 refine wpList_nil ?_
 refine x_tn ?_
 refine wp_seq ?_
 refine wp_seq ?_
 refine sx_list ?_
 refine l_do f rfl rfl rfl (y_move rfl rfl) ?_; clear f A; intro A f
 refine l_do f rfl rfl rfl (y_len rfl rfl (sl rfl)) ?_; clear f A; intro A f
 refine l_do f rfl rfl rfl (y_move rfl rfl) ?_; clear f A; intro A f
 refine wpList_nil ?_
 refine x_tn ?_
 refine wp_block ?_
 replace HM : MapK Try.prog W2 9 3 b1 0 (keysS (upTo Ch.names l 0)) := (HM _ _).iff (fun kl => by rw [upTo_zero]; exact keysS_nil kl)
 refine x_loop (fun n A W => ∃ k m : Nat, n = cn - k ∧ k ≤ cn ∧ m ≤ k * 8796093022208 ∧ Fr A 47 [(3, .map (some b1)), (12, .slice co cn cc), (13, .int .i64 (cn : Nat)), (14, .int .i64 (k : Nat))] ∧ Below w.heap.size w W ∧ MapK Try.prog W 9 3 b1 m (keysS (upTo Ch.names l k)) ∧ NTo l k ∧ (upTo Ch.names l k).Nodup) (n0 := cn) (⟨0, 0, rfl, Nat.zero_le _, Nat.zero_le _, f.sub ⟨rfl, rfl, rfl, rfl, trivial⟩, B0, HM, NTo.zero l, by rw [upTo_zero]; exact List.nodup_nil⟩) ?_
 clear f A
 clear B0 HM
 rintro n A W4 ⟨k, m, hn, hk, hm, f, B0, HM, hd, hnd⟩
 have oHM := HM.lt
 refine wp_seq ?_
 refine sx_list ?_
 refine l_if _ f rfl rfl rfl (y_lss rfl rfl rfl) ?_ ?_
 ·clear f A; intro c5 A f
  refine wpList_nil ?_
  refine x_tn ?_
  refine wp_seq ?_
  refine x_condT f rfl ?_
  refine wp_skip ?_
  refine x_tn ?_
  refine wp_seq ?_
  refine wp_block ?_
  refine wp_seq ?_
  refine sx_list ?_
  refine l_do f rfl rfl rfl (y_move rfl rfl) ?_; clear f A; intro A f
  obtain ⟨ga, oa, nma, sza, pra, ora, sla, aca, noa, nna, nca, soa, sna, sca, aoa, ana, aka, haa, c0a, c1a, c2a, c3a, c4a, c5a, hNa, hBa, hAa, hXa⟩ := (h).at (k) (by omega)
  replace c0a := St.of c0a; replace c1a := St.of c1a; replace c2a := St.of c2a; replace c3a := St.of c3a; replace c4a := St.of c4a; replace c5a := St.of c5a
  have l1 := hNa.len
  have rN := hNa.reach
  refine l_do f rfl rfl rfl (y_index rfl rfl (by first | rfl | assumption) rfl (es rfl) (by omega)) ?_; clear f A; intro A f
  refine l_do f rfl rfl rfl (y_loadN (vs := [_, _, _, _, _, _]) rfl rfl (ag rfl) rfl ⟨(by first | assumption | exact St.q c0a B0 | exact St.q c1a B0 | exact St.q c2a B0 | exact St.q c3a B0 | exact St.q c4a B0 | exact St.q c5a B0), (by first | assumption | exact St.q c0a B0 | exact St.q c1a B0 | exact St.q c2a B0 | exact St.q c3a B0 | exact St.q c4a B0 | exact St.q c5a B0), (by first | assumption | exact St.q c0a B0 | exact St.q c1a B0 | exact St.q c2a B0 | exact St.q c3a B0 | exact St.q c4a B0 | exact St.q c5a B0), (by first | assumption | exact St.q c0a B0 | exact St.q c1a B0 | exact St.q c2a B0 | exact St.q c3a B0 | exact St.q c4a B0 | exact St.q c5a B0), (by first | assumption | exact St.q c0a B0 | exact St.q c1a B0 | exact St.q c2a B0 | exact St.q c3a B0 | exact St.q c4a B0 | exact St.q c5a B0), (by first | assumption | exact St.q c0a B0 | exact St.q c1a B0 | exact St.q c2a B0 | exact St.q c3a B0 | exact St.q c4a B0 | exact St.q c5a B0), trivial⟩) ?_; clear f A; intro A f
  refine l_alloc (z := .agg #[.slice none 0 0, .int .i64 0, .int .i64 0, .int .i64 0, .slice none 0 0, .slice none 0 0]) f rfl rfl rfl rfl (by kernel_rfl) ?_; clear f A; intro b6 W7 eb6 hb8 rb6 A f; dsimp only [Value.cells] at rb6
  have z_B0_b6 := B0.size; rw [eb6] at z_B0_b6
  replace B0 := Below.next B0 hb8; replace HM := HM.below hb8
  refine l_do f rfl rfl rfl (y_assign rfl rfl) ?_; clear f A; intro A f
  refine l_store f rfl rfl rfl rfl rfl rb6 (sz rfl) rfl (Nat.le_of_ble_eq_true rfl) rfl ?_
  clear rb6; intro W9 hb10 rb6; dsimp only [setL, over, Value.cells] at rb6; replace B0 := Below.thenBut B0 hb10 (by omega); replace HM := MapK.but HM hb10 (by omega)
  refine wpList_nil ?_
  refine x_tn ?_
  refine wp_seq ?_
  refine sx_list ?_
  refine l_do f rfl rfl rfl (y_assign rfl rfl) ?_; clear f A; intro A f
  refine wpList_nil ?_
  refine x_tn ?_
  refine wp_seq ?_
  refine sx_list ?_
  refine l_do f rfl rfl rfl (y_field rfl rfl (fo rfl)) ?_; clear f A; intro A f
  refine l_do f rfl rfl rfl (y_load1 rfl rfl (ag rfl) (rowl (rowq rb6) rfl)) ?_; clear f A; intro A f
  refine l_do f rfl rfl rfl (y_len rfl rfl (sl rfl)) ?_; clear f A; intro A f
  refine l_do f rfl rfl rfl (y_move rfl rfl) ?_; clear f A; intro A f
  refine wpList_nil ?_
  refine x_tn ?_
  refine wp_block ?_
  have hbm : b1 < b6 := by omega
  refine x_loop (fun n A W => ∃ (j m2 : Nat) (last : ByteArray), n = nna - j ∧ j ≤ nna ∧ m2 ≤ m + j ∧ Fr A 47 [(3, .map (some b1)), (12, .slice co cn cc), (13, .int .i64 (cn : Nat)), (14, .int .i64 (k : Nat)), (5, .pointer (some ⟨b6, 0, none⟩)), (6, .string last), (20, .slice noa nna nca), (21, .int .i64 (nna : Nat)), (22, .int .i64 (j : Nat)), (4, .int .i64 (k : Nat))] ∧ Below w.heap.size w W ∧ W.heap[b6]? = some (.cells #[.slice noa nna nca, .int .i64 sza, .int .i64 pra, .int .i64 ora, .slice soa sna sca, .slice aoa ana aka] 45 (0, 0)) ∧ MapK Try.prog W 9 3 b1 m2 (keysS (upTo Ch.names l k ++ nma.take j)) ∧ NIn nma j ∧ (upTo Ch.names l k ++ nma.take j).Nodup ∧ (0 < j → last = nma.getD (j - 1) default) ∧ (j = 0 → last = ⟨#[]⟩)) (n0 := nna) (⟨0, m, ⟨#[]⟩, rfl, Nat.zero_le _, Nat.le_refl _, f.sub ⟨rfl, rfl, rfl, rfl, rfl, rfl, rfl, rfl, rfl, rfl, trivial⟩, B0, rb6, by rw [List.take_zero, List.append_nil]; exact HM, NIn.zero nma, by rw [List.take_zero, List.append_nil]; exact hnd, fun h => absurd h (Nat.lt_irrefl 0), fun _ => rfl⟩) ?_
  clear f A
  clear B0 HM rb6
  rintro n2 A W11 ⟨j, m2, last, hn2, hj, hm2, f, B0, rb6, HM, hi, hnd2, hl1, hl0⟩
  have oHM2 := HM.lt
  refine wp_seq ?_
  refine sx_list ?_
  refine l_if _ f rfl rfl rfl (y_lss rfl rfl rfl) ?_ ?_
  ·clear f A; intro c12 A f
   refine wpList_nil ?_
   refine x_tn ?_
   refine wp_seq ?_
   refine x_condT f rfl ?_
   refine wp_skip ?_
   refine x_tn ?_
   refine wp_seq ?_
   refine wp_block ?_
   refine wp_seq ?_
   refine sx_list ?_
   obtain ⟨gs, os, sa, has, q1, hS⟩ := hNa.at j (by omega)
   replace q1 := St.of q1
   refine l_do f rfl rfl rfl (y_index rfl rfl (by first | rfl | assumption) rfl (es rfl) (by omega)) ?_; clear f A; intro A f
   refine l_do f rfl rfl rfl (y_load1 rfl rfl (ag rfl) (by first | assumption | exact St.q c0a B0 | exact St.q c1a B0 | exact St.q c2a B0 | exact St.q c3a B0 | exact St.q c4a B0 | exact St.q c5a B0 | exact St.q q1 B0)) ?_; clear f A; intro A f
   refine l_do f rfl rfl rfl (y_assign rfl rfl) ?_; clear f A; intro A f
   refine wpList_nil ?_
   refine x_tn ?_
   refine wp_seq ?_
   refine wp_seq ?_
   refine sx_list ?_
   refine l_do f rfl rfl rfl (y_move rfl rfl) ?_; clear f A; intro A f
   refine l_callB _ f rfl rfl rfl (IsCall.mk' (cap := []) rfl rfl rfl) (pl rfl) (slIsName_any _ sa) ?_ ?_
   ·clear f A; intro c13 W15 hb14 A f
    replace B0 := Below.next B0 hb14; replace rb6 := row_next rb6 hb14; replace HM := HM.below hb14
    have hok := c13
    refine l_do f rfl rfl rfl (y_not rfl rfl) ?_; clear f A; intro A f
    refine l_do f rfl rfl rfl (y_move rfl rfl) ?_; clear f A; intro A f
    refine l_do f rfl rfl rfl (y_move rfl rfl) ?_; clear f A; intro A f
    refine l_do f rfl rfl rfl (y_move rfl rfl) ?_; clear f A; intro A f
    refine l_if _ f rfl rfl rfl (y_leqS rfl rfl rfl) ?_ ?_
    ·clear f A; intro c16 A f
     refine l_do f rfl rfl rfl (y_pick rfl rfl rfl) ?_; clear f A; intro A f
     refine wpList_nil ?_
     refine x_tn ?_
     refine x_condT f rfl ?_
     refine wp_seq ?_
     refine sx_list ?_
     refine l_do f rfl rfl rfl (y_assign rfl rfl) ?_; clear f A; intro A f
     refine wpList_nil ?_
     refine x_tn ?_
     refine wp_ret ?_
     refine x_tr ?_
     refine x_br ?_
     refine x_tr ?_
     refine x_tr ?_
     refine x_br ?_
     refine x_br ?_
     refine x_tr ?_
     refine x_tr ?_
     refine x_br ?_
     refine x_tr ?_
     refine x_ret1 f rfl rfl ?_
     refine ⟨retB_false (fun hh => ?_), B0⟩
     by_cases hj0 : j = 0
     ·rw [hl0 hj0] at c16; exact strLe_empty hok c16
     ·have h1 := (namesMay_at hh (show k < l.length by omega)).2
      rw [hXa.out] at h1
      have h2 := h1 j (by show j < nma.length; omega) (by omega)
      dsimp only at h2
      rw [hS.out, ← hl1 (by omega), c16] at h2
      cases h2
    ·clear f A; intro c16 A f
     refine l_do f rfl rfl rfl (y_pick rfl rfl rfl) ?_; clear f A; intro A f
     refine wpList_nil ?_
     refine x_tn ?_
     refine x_condF f rfl ?_
     refine wp_skip ?_
     refine x_tn ?_
     refine wp_seq ?_
     refine wp_seq ?_
     refine sx_list ?_
     refine l_do f rfl rfl rfl (y_move rfl rfl) ?_; clear f A; intro A f
     refine l_do f rfl rfl rfl (y_move rfl rfl) ?_; clear f A; intro A f
     refine l_lookB (kl := .string sa.data.toList) f rfl rfl rfl rfl rfl rfl mapT_SI (WideMaps.keyOf_string_mk Try.underlying9 (by have h1 := hok.hi; have : (8 : Nat) < maxLen := (by decide); omega)) HM ?_ ?_
     ·clear f A; intro c17 lv A f
      refine l_do f rfl rfl rfl (y_move rfl rfl) ?_; clear f A; intro A f
      refine l_do f rfl rfl rfl (y_ext rfl rfl rfl) ?_; clear f A; intro A f
      refine l_do f rfl rfl rfl (y_ext rfl rfl rfl) ?_; clear f A; intro A f
      refine l_do f rfl rfl rfl (y_assign rfl rfl) ?_; clear f A; intro A f
      refine l_do f rfl rfl rfl (y_assign rfl rfl) ?_; clear f A; intro A f
      refine wpList_nil ?_
      refine x_tn ?_
      refine wp_seq ?_
      refine sx_list ?_
      refine l_do f rfl rfl rfl (y_move rfl rfl) ?_; clear f A; intro A f
      refine wpList_nil ?_
      refine x_tn ?_
      refine x_condT f rfl ?_
      refine wp_seq ?_
      refine sx_list ?_
      refine l_do f rfl rfl rfl (y_assign rfl rfl) ?_; clear f A; intro A f
      refine wpList_nil ?_
      refine x_tn ?_
      refine wp_ret ?_
      refine x_tr ?_
      refine x_br ?_
      refine x_tr ?_
      refine x_tr ?_
      refine x_br ?_
      refine x_br ?_
      refine x_tr ?_
      refine x_tr ?_
      refine x_br ?_
      refine x_tr ?_
      refine x_ret1 f rfl rfl ?_
      exact ⟨retB_false (fun hh => upTo_twice Ch.names l default (show k < l.length by omega) (by rw [hXa.out]) hS.out (by omega) hh.dis (keysS_at.1 c17)), B0⟩
     ·clear f A; intro c17 lv A f
      refine l_do f rfl rfl rfl (y_move rfl rfl) ?_; clear f A; intro A f
      refine l_do f rfl rfl rfl (y_ext rfl rfl rfl) ?_; clear f A; intro A f
      refine l_do f rfl rfl rfl (y_ext rfl rfl rfl) ?_; clear f A; intro A f
      refine l_do f rfl rfl rfl (y_assign rfl rfl) ?_; clear f A; intro A f
      refine l_do f rfl rfl rfl (y_assign rfl rfl) ?_; clear f A; intro A f
      refine wpList_nil ?_
      refine x_tn ?_
      refine wp_seq ?_
      refine sx_list ?_
      refine l_do f rfl rfl rfl (y_move rfl rfl) ?_; clear f A; intro A f
      refine wpList_nil ?_
      refine x_tn ?_
      refine x_condF f rfl ?_
      refine wp_skip ?_
      refine x_tn ?_
      refine wp_seq ?_
      refine sx_list ?_
      refine l_do f rfl rfl rfl (y_move rfl rfl) ?_; clear f A; intro A f
      refine l_do f rfl rfl rfl (y_move rfl rfl) ?_; clear f A; intro A f
      refine l_do f rfl rfl rfl (y_move rfl rfl) ?_; clear f A; intro A f
      refine l_put (kl := .string sa.data.toList) f rfl rfl rfl rfl rfl rfl mapT_SI (WideMaps.keyOf_string_mk Try.underlying9 (by have h1 := hok.hi; have : (8 : Nat) < maxLen := (by decide); omega)) trivial (WalkArith.wf_i64 (by omega)) (by have : (1000000000000000 : Nat) < maxLen := (by decide); omega) HM ?_; intro W18 hb19 HM
      replace B0 := Below.thenBut B0 hb19 (by omega); replace rb6 := But.row hb19 rb6 (by omega)
      refine wpList_nil ?_
      refine x_tn ?_
      refine sx_list ?_
      refine l_do f rfl rfl rfl (y_move rfl rfl) ?_; clear f A; intro A f
      refine l_do f rfl rfl rfl (y_assign rfl rfl) ?_; clear f A; intro A f
      refine wpList_nil ?_
      refine x_bn ?_
      refine x_tn ?_
      refine sx_list ?_
      refine l_do f rfl rfl rfl (y_add rfl rfl rfl rfl (by omega)) ?_; clear f A; intro A f
      refine l_do f rfl rfl rfl (y_move rfl rfl) ?_; clear f A; intro A f
      refine wpList_nil ?_
      refine x_tn ?_
      exact ⟨nna - (j + 1), by omega, j + 1, m2 + 1, sa, rfl, by omega, by omega, f.sub ⟨rfl, rfl, rfl, rfl, rfl, rfl, rfl, rfl, rfl, rfl, trivial⟩, B0, rb6, HM.iff (fun kl => by rw [upTo_step Ch.names l default hS.out (show j < nma.length by omega)]; exact keysS_put kl), hi.put hS.out hok hl1 c16, upTo_more Ch.names l default hS.out (by omega) hnd2 (fun h => c17 (keysS_at.2 h)), fun _ => hS.out.symm, fun h => absurd h (Nat.succ_ne_zero j)⟩
   ·clear f A; intro c13 W15 hb14 A f
    replace B0 := Below.next B0 hb14; replace rb6 := row_next rb6 hb14; replace HM := HM.below hb14
    refine l_do f rfl rfl rfl (y_not rfl rfl) ?_; clear f A; intro A f
    refine l_do f rfl rfl rfl (y_move rfl rfl) ?_; clear f A; intro A f
    refine l_no f rfl rfl rfl ?_; clear f A; intro A f
    refine l_no f rfl rfl rfl ?_; clear f A; intro A f
    refine l_no f rfl rfl rfl ?_; clear f A; intro A f
    refine l_do f rfl rfl rfl (y_pick rfl rfl rfl) ?_; clear f A; intro A f
    refine wpList_nil ?_
    refine x_tn ?_
    refine x_condT f rfl ?_
    refine wp_seq ?_
    refine sx_list ?_
    refine l_do f rfl rfl rfl (y_assign rfl rfl) ?_; clear f A; intro A f
    refine wpList_nil ?_
    refine x_tn ?_
    refine wp_ret ?_
    refine x_tr ?_
    refine x_br ?_
    refine x_tr ?_
    refine x_tr ?_
    refine x_br ?_
    refine x_br ?_
    refine x_tr ?_
    refine x_tr ?_
    refine x_br ?_
    refine x_tr ?_
    refine x_ret1 f rfl rfl ?_
    exact ⟨retB_false (fun hh => c13 (by have h1 := (namesMay_at hh (show k < l.length by omega)).1; rw [hXa.out] at h1; rw [← hS.out]; exact h1 _ (getD_mem (d := (default : ByteArray)) (show j < nma.length by omega)))), B0⟩
  ·clear f A; intro c12 A f
   refine wpList_nil ?_
   refine x_tn ?_
   refine wp_seq ?_
   refine x_condF f rfl ?_
   refine wp_exit ?_
   refine x_te ?_
   refine x_te ?_
   refine x_bh ?_
   refine x_bn ?_
   refine x_tn ?_
   refine sx_list ?_
   refine l_do f rfl rfl rfl (y_add rfl rfl rfl rfl (by omega)) ?_; clear f A; intro A f
   refine l_do f rfl rfl rfl (y_move rfl rfl) ?_; clear f A; intro A f
   refine wpList_nil ?_
   refine x_tn ?_
   have hje : j = nna := by omega
   have hte : nma.take j = nma := List.take_of_length_le (by omega)
   have hue : upTo Ch.names l (k + 1) = upTo Ch.names l k ++ nma := by rw [upTo_succ Ch.names l (by omega), hXa.out]
   exact ⟨cn - (k + 1), by omega, k + 1, m2, rfl, by omega, by omega, f.sub ⟨rfl, rfl, rfl, rfl, trivial⟩, B0, by rw [hue, ← hte]; exact HM, hd.put (by rw [hXa.out]) (by rw [show nma.length = j by omega]; exact hi), by rw [hue, ← hte]; exact hnd2⟩
 ·clear f A; intro c5 A f
  refine wpList_nil ?_
  refine x_tn ?_
  refine wp_seq ?_
  refine x_condF f rfl ?_
  refine wp_exit ?_
  refine x_te ?_
  refine x_te ?_
  refine x_bh ?_
  refine x_tn ?_
  refine wp_seq ?_
  refine sx_list ?_
  refine l_do f rfl rfl rfl (y_assign rfl rfl) ?_; clear f A; intro A f
  refine wpList_nil ?_
  refine x_tn ?_
  refine wp_ret ?_
  refine x_ret1 f rfl rfl ?_
  have hke : k = cn := by omega
  subst hke
  exact ⟨retB_true (namesMay_of h.len hd hnd), B0⟩
theorem power_nat (w : World) (n : Nat) (hn : n ≤ 8) :
    Calls Try.prog 40 #[.int .i64 n] w fun e w' => e = .returned (.int .i64 ((2 ^ n : Nat) : Int)) ∧ w = w' := by
 obtain ⟨P, hP⟩ : ∃ P : Nat, 2 ^ n = P := ⟨_, rfl⟩
 rw [hP]
 have HP : Hid (2 ^ n = P) := hP
 clear hP
 go_enter Try.func40, Try.ntmps40
 go_wp2
 go_loopw [0, 3] (fun nv pv wr => ∃ k q : Nat, k ≤ n ∧ q ≤ 256 ∧ nv = .int .i64 k ∧ pv = .int .i64 q ∧ Hid (q * 2 ^ k = P) ∧ w = wr) (fun nv _ _ => (intOf nv).toNat)
 case atStart => exact ⟨n, 1, Nat.le_refl _, by omega, rfl, rfl, by show _ = _; rw [Nat.one_mul]; exact HP.out, rfl⟩
 case round =>
  obtain ⟨k, q, hk, hq, rfl, rfl, hI, rfl⟩ := hrel
  cases k with
  | zero =>
   obtain rfl : q = P := by have := hI.out; simpa using this
   clear hI HP
   go_wp2
   go_ret
   exact ⟨rfl, rfl⟩
  | succ k =>
   have hI2 : Hid (2 * q * 2 ^ k = P) := by have := hI.out; show _ = _; rw [← this, Nat.pow_succ]; rw [Nat.mul_comm 2 q, Nat.mul_assoc, Nat.mul_comm 2]
   have hq3 : 2 * q ≤ 256 := by
    have h1 := hI2.out
    have h2 := HP.out
    have h3 : P ≤ 256 := by rw [← h2]; exact Nat.le_trans (Nat.pow_le_pow_right (by omega) hn) (by decide)
    have h4 := Nat.two_pow_pos k
    have h5 : 2 * q * 1 ≤ 2 * q * 2 ^ k := Nat.mul_le_mul_left _ h4
    omega
   have t1 : (0 : Int) < ((k + 1 : Nat) : Int) := by omega
   clear hI HP
   go_wp2
   go_roundw
   case rel => exact ⟨k, 2 * q, by omega, hq3, by go_num, by go_num, hI2, trivial⟩
   case measure => simp [intOf]
theorem power_any (w : World) (o : Int) (h0 : 0 ≤ o) (h : o ≤ 8) :
    Calls Try.prog 40 #[.int .i64 o] w fun e w' => e = .returned (.int .i64 (pw o)) ∧ w = w' := by
 obtain ⟨n, rfl⟩ : ∃ n : Nat, o = n := ⟨o.toNat, by omega⟩
 exact power_nat w n (by omega)
theorem power_q (o : Int) (h0 : 0 ≤ o) (h : o ≤ 8) (w : World) :
    Calls Try.prog 40 #[.int .i64 o] w fun e w' => e = .returned (.int .i64 (pw o)) ∧ w' = w :=
 (power_any w o h0 h).mono fun _ _ ⟨h1, h2⟩ => ⟨h1, h2.symm⟩
theorem power_v (o v : Int) (h0 : 0 ≤ o) (h : o ≤ 8) (hv : pw o = v) (w : World) :
    Calls Try.prog 40 #[.int .i64 o] w fun e w' => e = .returned (.int .i64 v) ∧ w' = w := by
 subst hv; exact power_q o h0 h w
theorem overlaps_any (w : World) (ao : Option Addr) (n cap : Nat) (l : List Bk) (a o : Int) (h : Blks w ao n l) (ho : ∀ i, i < l.length → ordOk (l.getD i .zero).o ∧ 0 ≤ (l.getD i .zero).a ∧ (l.getD i .zero).a ≤ 256) (hoo : ordOk o) (h0 : 0 ≤ a) (h1 : a ≤ 256) :
    Calls Try.prog 39 #[.slice ao n cap, .int .i64 a, .int .i64 o] w fun e w' => RetIff e (∃ i, i < l.length ∧ (l.getD i .zero).a < a + pw o ∧ a < (l.getD i .zero).a + pw (l.getD i .zero).o) ∧ ∃ d, w' = w.drewN d := by
 obtain ⟨hn, hr, hx⟩ := h
 obtain ⟨P, hP⟩ : ∃ P, pw o = P := ⟨_, rfl⟩
 have HP : Hid (pw o = P) := hP
 have p1 := pw_pos o
 have p2 := pw_le hoo
 obtain ⟨o0, o4⟩ := hoo
 rw [hP] at p1 p2 ⊢
 clear hP
 go_enter Try.func39, Try.ntmps39
 go_wp2
 go_loopw [7] (fun i wr => ∃ k : Nat, k ≤ n ∧ i = .int .i64 k ∧ Hid (∀ i, i < k → ¬ ((l.getD i .zero).a < a + P ∧ a < (l.getD i .zero).a + pw (l.getD i .zero).o)) ∧ ∃ d, wr = w.drewN d) (fun i _ => n - (intOf i).toNat)
 case atStart => exact ⟨0, Nat.zero_le _, rfl, (fun i hi => absurd hi (Nat.not_lt_zero i)), 0, rfl⟩
 case round =>
  obtain ⟨k, hk, rfl, hN, hd⟩ := hrel
  have hbw : Below w.heap.size w wr := by obtain ⟨d, rfl⟩ := hd; exact below_drawn d
  by_cases hlt : k < n
  ·obtain ⟨b, bo, x, y, u, rfl, c1, c2, c3, hX⟩ := (hx.below hbw).at k (by omega)
   have hy : ordOk y ∧ 0 ≤ x ∧ x ≤ 256 := by have := ho k (by omega); rw [hX.out] at this; exact this
   obtain ⟨hy1, x0, x1⟩ := hy
   obtain ⟨P', hP'⟩ : ∃ P', pw y = P' := ⟨_, rfl⟩
   have HP' : Hid (pw y = P') := hP'
   have p1' := pw_pos y
   have p2' := pw_le hy1
   obtain ⟨y0, y4⟩ := hy1
   rw [hP'] at p1' p2'
   clear hP' c3
   by_cases g1 : x < a + P
   ·have g1b : decide (x < a + P) = true := decide_eq_true g1
    by_cases g2 : a < x + P'
    ·have g2b : decide (a < x + P') = true := decide_eq_true g2
     have HT : Hid (∃ i, i < l.length ∧ (l.getD i .zero).a < a + P ∧ a < (l.getD i .zero).a + pw (l.getD i .zero).o) := ⟨k, by omega, by rw [hX.out]; exact g1, by rw [hX.out]; dsimp only; rw [HP'.out]; exact g2⟩
     clear hN ho hx hX
     go_wp2
     go_quiet (first | (go_at_call_of 40 o; exact Calls.quiet_of_same (power_v o P o0 (by omega) HP.out _)) | (go_at_call_of 40 y; exact Calls.quiet_of_same (power_v y P' y0 (by omega) HP'.out _)))
     go_wp2
     go_ret
     exact ⟨⟨true, rfl, fun _ => HT.out, fun _ => rfl⟩, drawn_more hd _⟩
    ·have g2b : decide (a < x + P') = false := decide_eq_false g2
     have hN' : Hid (∀ i, i < k + 1 → ¬ ((l.getD i .zero).a < a + P ∧ a < (l.getD i .zero).a + pw (l.getD i .zero).o)) := fun i hi => by
      by_cases e : i = k
      ·rw [e, hX.out]; dsimp only; rw [HP'.out]; exact fun g => g2 g.2
      ·exact hN.out i (by omega)
     clear hN ho hX
     go_wp2
     go_quiet (first | (go_at_call_of 40 o; exact Calls.quiet_of_same (power_v o P o0 (by omega) HP.out _)) | (go_at_call_of 40 y; exact Calls.quiet_of_same (power_v y P' y0 (by omega) HP'.out _)))
     go_wp2
     go_roundw
     case rel => exact ⟨k + 1, by omega, by go_num, hN', drawn_more hd _⟩
     case measure => simp [intOf]; omega
   ·have g1b : decide (x < a + P) = false := decide_eq_false g1
    have hN' : Hid (∀ i, i < k + 1 → ¬ ((l.getD i .zero).a < a + P ∧ a < (l.getD i .zero).a + pw (l.getD i .zero).o)) := fun i hi => by
     by_cases e : i = k
     ·rw [e, hX.out]; exact fun g => g1 g.1
     ·exact hN.out i (by omega)
    clear hN ho hX
    go_wp2
    go_quiet (first | (go_at_call_of 40 o; exact Calls.quiet_of_same (power_v o P o0 (by omega) HP.out _)) | (go_at_call_of 40 y; exact Calls.quiet_of_same (power_v y P' y0 (by omega) HP'.out _)))
    go_wp2
    go_roundw
    case rel => exact ⟨k + 1, by omega, by go_num, hN', drawn_more hd _⟩
    case measure => simp [intOf]; omega
  ·have HF : Hid (¬ ∃ i, i < l.length ∧ (l.getD i .zero).a < a + P ∧ a < (l.getD i .zero).a + pw (l.getD i .zero).o) := fun ⟨i, hi, g⟩ => hN.out i (by omega) g
   clear hN ho
   go_wp2
   go_ret
   exact ⟨⟨false, rfl, fun g => (by cases g), fun g => absurd g HF.out⟩, hd⟩
end Go.Proofs.Ytnijjpakpphhhaa
namespace Go.Proofs.Ytnijjpakpphhhaa.Kit
def isB (a o : Int) (b : Bk) : Bool := decide (b.a = a ∧ b.o = o)
def dropB (l : List Bk) (a o : Int) : List Bk := l.filter fun b => !isB a o b
def hasB (l : List Bk) (a o : Int) : Bool := l.any (isB a o)
theorem dropB_snoc (l : List Bk) (a o : Int) (b : Bk) : dropB (l ++ [b]) a o = if isB a o b = true then dropB l a o else dropB l a o ++ [b] := by
 unfold dropB
 rw [List.filter_append]
 by_cases h : isB a o b = true
 ·rw [if_pos h]; simp [List.filter, h]
 ·rw [if_neg h]; simp [List.filter, h]
theorem hasB_snoc (l : List Bk) (a o : Int) (b : Bk) : hasB (l ++ [b]) a o = (hasB l a o || isB a o b) := by simp [hasB, List.any_append]
theorem dropB_len (l : List Bk) (a o : Int) : (dropB l a o).length ≤ l.length := List.length_filter_le _ _
def addB : List Bk → Bk → List Bk
 | [], b => [b]
 | x :: l, b => if x.a > b.a then b :: x :: l else x :: addB l b
theorem addB_len (l : List Bk) (b : Bk) : (addB l b).length = l.length + 1 := by
 induction l with
 | nil => rfl
 | cons x l ih =>
  simp only [addB]
  split
  ·simp
  ·simp [ih]
def gtB (l : List Bk) (b : Bk) : Bool := l.any fun x => decide (x.a > b.a)
theorem gtB_snoc (l : List Bk) (x b : Bk) : gtB (l ++ [x]) b = (gtB l b || decide (x.a > b.a)) := by simp [gtB, List.any_append]
theorem addB_snoc_t {l : List Bk} {b : Bk} (x : Bk) (h : gtB l b = true) : addB (l ++ [x]) b = addB l b ++ [x] := by
 induction l with
 | nil => simp [gtB] at h
 | cons y l ih =>
  simp only [List.cons_append, addB]
  by_cases g : y.a > b.a
  ·rw [if_pos g, if_pos g]; rfl
  ·rw [if_neg g, if_neg g, ih (by simp only [gtB, List.any_cons, Bool.or_eq_true, decide_eq_true_eq] at h ⊢; rcases h with h | h; exact absurd h g; exact h)]
   rfl
theorem addB_none {l : List Bk} {b : Bk} (h : gtB l b = false) : addB l b = l ++ [b] := by
 induction l with
 | nil => rfl
 | cons y l ih =>
  simp only [gtB, List.any_cons, Bool.or_eq_false_iff, decide_eq_false_iff_not] at h
  simp only [addB]
  rw [if_neg h.1, ih h.2]
  rfl
theorem addB_snoc_f {l : List Bk} {b x : Bk} (h : gtB l b = false) (hx : x.a > b.a) : addB (l ++ [x]) b = l ++ [b, x] := by
 induction l with
 | nil => simp [addB, hx]
 | cons y l ih =>
  simp only [gtB, List.any_cons, Bool.or_eq_false_iff, decide_eq_false_iff_not] at h
  simp only [List.cons_append, addB]
  rw [if_neg h.1, ih h.2]
def outB (l : List Bk) (b : Bk) : List Bk := if gtB l b = true then addB l b else l
theorem outB_len (l : List Bk) (b : Bk) : (outB l b).length ≤ l.length + 1 := by
 unfold outB
 split
 ·rw [addB_len]; omega
 ·omega
def besideA (a o : Int) : Int := if a % pw (o + 1) = 0 then a + pw o else a - pw o
def backGo : Nat → List Bk → Int → Int → List Bk × Int × Int
 | 0, l, a, o => (l, a, o)
 | n + 1, l, a, o => if hasB l (besideA a o) o = true then backGo n (dropB l (besideA a o) o) (if besideA a o < a then besideA a o else a) (o + 1) else (l, a, o)
def backZ (z : Zn) (a o : Int) : Zn :=
 ⟨z.f, z.t, addB (backGo (4 - o).toNat z.free a o).1 ⟨(backGo (4 - o).toNat z.free a o).2.1, (backGo (4 - o).toNat z.free a o).2.2, z.types.getD (((backGo (4 - o).toNat z.free a o).2.1 - z.f) / 8).toNat 0⟩, z.types⟩
theorem dropB_mem {l : List Bk} {a o : Int} {b : Bk} (h : b ∈ dropB l a o) : b ∈ l := (List.mem_filter.1 h).1
theorem hasB_in {l : List Bk} {f t a o : Int} (h : hasB l a o = true) (hl : ∀ b ∈ l, blkIn f t b.a b.o) : blkIn f t a o := by
 unfold hasB at h
 rw [List.any_eq_true] at h
 obtain ⟨b, hb, hi⟩ := h
 have := of_decide_eq_true hi
 have h2 := hl b hb
 rw [this.1, this.2] at h2
 exact h2
theorem join_in {f t a o : Int} (h : blkIn f t a o) (hb : blkIn f t (besideA a o) o) (ho : o < 4) : blkIn f t (if besideA a o < a then besideA a o else a) (o + 1) := by
 obtain ⟨⟨h1, h2⟩, h3, h4, h5⟩ := h
 obtain ⟨_, g3, g4, g5⟩ := hb
 have ho' : ordOk (o + 1) := ⟨by omega, by omega⟩
 rcases (show o = 0 ∨ o = 1 ∨ o = 2 ∨ o = 3 by omega) with rfl | rfl | rfl | rfl
 all_goals
  unfold besideA at g3 g4 g5 ⊢
  simp only [pw_0, pw_1, pw_2, pw_3, pw_4, show (0 : Int) + 1 = 1 from rfl, show (1 : Int) + 1 = 2 from rfl, show (2 : Int) + 1 = 3 from rfl, show (3 : Int) + 1 = 4 from rfl] at g3 g4 g5 h5 ⊢
  refine ⟨⟨by omega, by omega⟩, ?_, ?_, ?_⟩
  ·split at g3 <;> split <;> omega
  ·split at g4 <;> split <;> omega
  ·simp only [pw_1, pw_2, pw_3, pw_4]
   split at g5 <;> split <;> omega
end Go.Proofs.Ytnijjpakpphhhaa.Kit
