/-
  OWN TEXTS.
-/
import Derived.Test.YtnijjpakpphhhaaPart12
set_option maxRecDepth 10000
set_option maxHeartbeats 4000000
namespace Go.Proofs.Ytnijjpakpphhhaa
open Go Go.RowKit Go.Proofs.Ytnijjpakpphhhaa.Kit
theorem slabChecks_walk (x : Sy) (w : World) (h : IsSys w x) :
    Calls Try.prog 3 #[.agg #[.slice x.wo x.wn x.wc, .slice x.h.zo x.h.zn x.h.zc, .slice x.h.mo x.h.mn x.h.mc, .int .i64 x.h.cpus, .slice x.h.lo x.h.ln x.h.lc, .slice x.h.vo x.h.vn x.h.vc, .slice x.co x.cn x.cc]] w fun e w' => e = .returned (.bool true) ∧ Below w.heap.size w w' := by
 have hx := h.at_
 have B0 := Below.refl w.heap.size w
 refine sx_enter (args := [_]) 22 Try.func3 rfl rfl rfl ?_
 intro A f
 refine wp_seq ?_
 refine sx_list ?_
 refine l_box f rfl rfl rfl rfl rfl ?_; clear f A; intro b1 W2 eb1 hb3 rb1 A f; dsimp only [Value.cells] at rb1
 have z_B0_b1 := B0.size; rw [eb1] at z_B0_b1
 replace B0 := Below.next B0 hb3
 refine l_do f rfl rfl rfl (y_assign rfl rfl) ?_; clear f A; intro A f
 refine wpList_nil ?_
 refine x_tn ?_
 refine wp_seq ?_
 refine sx_list ?_
 refine l_do f rfl rfl rfl (y_loadN (vs := [_, _, _, _, _, _, _]) rfl rfl (ag rfl) rfl (rowls (rowq rb1) _ _ ⟨rfl, rfl, rfl, rfl, rfl, rfl, rfl, trivial⟩)) ?_; clear f A; intro A f
 refine l_call f rfl rfl rfl (IsCall.mk' (cap := []) rfl rfl rfl) (pl rfl) (slCheck_any _ x (hx.below B0) h.cf) ?_; clear f A; rintro _ W4 ⟨⟨q, rfl, hq⟩, hb5⟩
 rcases hq with ⟨rfl, hm⟩ | ⟨rfl, hm⟩
 ·refine ⟨_, rfl, ?_⟩
  intro A f
  replace B0 := Below.next B0 hb5; replace rb1 := row_next rb1 hb5
  refine l_do f rfl rfl rfl (y_assign rfl rfl) ?_; clear f A; intro A f
  refine wpList_nil ?_
  refine x_tn ?_
  refine wp_seq ?_
  refine sx_list ?_
  refine l_do f rfl rfl rfl (y_loadN (vs := [_, _, _, _, _, _, _]) rfl rfl (ag rfl) rfl (rowls (rowq rb1) _ _ ⟨rfl, rfl, rfl, rfl, rfl, rfl, rfl, trivial⟩)) ?_; clear f A; intro A f
  refine l_callB _ f rfl rfl rfl (IsCall.mk' (cap := []) rfl rfl rfl) (pl rfl) (sysMay_any _ x (hx.below B0) h.cf) ?_ ?_
  ·clear f A; intro c6 W8 hb7 A f
   replace B0 := Below.next B0 hb7; replace rb1 := row_next rb1 hb7
   refine l_do f rfl rfl rfl (y_assign rfl rfl) ?_; clear f A; intro A f
   refine wpList_nil ?_
   refine x_tn ?_
   refine wp_seq ?_
   refine sx_list ?_
   refine l_do f rfl rfl rfl (y_move rfl rfl) ?_; clear f A; intro A f
   refine l_do f rfl rfl rfl (y_move rfl rfl) ?_; clear f A; intro A f
   refine l_do f rfl rfl rfl (y_move rfl rfl) ?_; clear f A; intro A f
   refine l_if _ f rfl rfl rfl (y_eql rfl rfl rfl) ?_ ?_
   ·clear f A; intro c9 A f
    refine l_do f rfl rfl rfl (y_pick rfl rfl rfl) ?_; clear f A; intro A f
    refine l_do f rfl rfl rfl (y_move rfl rfl) ?_; clear f A; intro A f
    refine l_no f rfl rfl rfl ?_; clear f A; intro A f
    refine l_no f rfl rfl rfl ?_; clear f A; intro A f
    refine l_no f rfl rfl rfl ?_; clear f A; intro A f
    refine l_no f rfl rfl rfl ?_; clear f A; intro A f
    refine l_no f rfl rfl rfl ?_; clear f A; intro A f
    refine l_no f rfl rfl rfl ?_; clear f A; intro A f
    refine l_do f rfl rfl rfl (y_pick rfl rfl rfl) ?_; clear f A; intro A f
    refine l_do f rfl rfl rfl (y_assign rfl rfl) ?_; clear f A; intro A f
    refine wpList_nil ?_
    refine x_tn ?_
    refine wp_ret ?_
    refine x_ret1 f rfl rfl ?_
    exact ⟨rfl, B0⟩
   ·intro c9; exfalso; omega
  ·intro c6; exact absurd hm c6
 ·refine ⟨_, rfl, ?_⟩
  intro A f
  replace B0 := Below.next B0 hb5; replace rb1 := row_next rb1 hb5
  refine l_do f rfl rfl rfl (y_assign rfl rfl) ?_; clear f A; intro A f
  refine wpList_nil ?_
  refine x_tn ?_
  refine wp_seq ?_
  refine sx_list ?_
  refine l_do f rfl rfl rfl (y_loadN (vs := [_, _, _, _, _, _, _]) rfl rfl (ag rfl) rfl (rowls (rowq rb1) _ _ ⟨rfl, rfl, rfl, rfl, rfl, rfl, rfl, trivial⟩)) ?_; clear f A; intro A f
  refine l_callB _ f rfl rfl rfl (IsCall.mk' (cap := []) rfl rfl rfl) (pl rfl) (sysMay_any _ x (hx.below B0) h.cf) ?_ ?_
  ·intro c10; exact absurd c10 hm
  ·clear f A; intro c10 W12 hb11 A f
   replace B0 := Below.next B0 hb11; replace rb1 := row_next rb1 hb11
   refine l_do f rfl rfl rfl (y_assign rfl rfl) ?_; clear f A; intro A f
   refine wpList_nil ?_
   refine x_tn ?_
   refine wp_seq ?_
   refine sx_list ?_
   refine l_do f rfl rfl rfl (y_move rfl rfl) ?_; clear f A; intro A f
   refine l_do f rfl rfl rfl (y_move rfl rfl) ?_; clear f A; intro A f
   refine l_no f rfl rfl rfl ?_; clear f A; intro A f
   refine l_no f rfl rfl rfl ?_; clear f A; intro A f
   refine l_do f rfl rfl rfl (y_pick rfl rfl rfl) ?_; clear f A; intro A f
   refine l_do f rfl rfl rfl (y_move rfl rfl) ?_; clear f A; intro A f
   refine l_do f rfl rfl rfl (y_move rfl rfl) ?_; clear f A; intro A f
   refine l_do f rfl rfl rfl (y_not rfl rfl) ?_; clear f A; intro A f
   refine l_do f rfl rfl rfl (y_move rfl rfl) ?_; clear f A; intro A f
   refine l_do f rfl rfl rfl (y_move rfl rfl) ?_; clear f A; intro A f
   refine l_if _ f rfl rfl rfl (y_eql rfl rfl rfl) ?_ ?_
   ·clear f A; intro c13 A f
    refine l_do f rfl rfl rfl (y_pick rfl rfl rfl) ?_; clear f A; intro A f
    refine l_do f rfl rfl rfl (y_pick rfl rfl rfl) ?_; clear f A; intro A f
    refine l_do f rfl rfl rfl (y_assign rfl rfl) ?_; clear f A; intro A f
    refine wpList_nil ?_
    refine x_tn ?_
    refine wp_ret ?_
    refine x_ret1 f rfl rfl ?_
    exact ⟨rfl, B0⟩
   ·intro c13; exfalso; omega
end Go.Proofs.Ytnijjpakpphhhaa
