/-
  OWN TEXTS.
-/
import Derived.Test.YtnijjpakpphhhaaPart9
set_option maxRecDepth 10000
set_option maxHeartbeats 4000000
namespace Go.Proofs.Ytnijjpakpphhhaa
open Go Go.RowKit Go.Proofs.Ytnijjpakpphhhaa.Kit
set_option maxHeartbeats 8000000 in
theorem heapMay_any (w : World) (x : Hx) (hx : x.At w) :
    Calls Try.prog 16 #[.agg #[.slice x.zo x.zn x.zc, .slice x.mo x.mn x.mc, .int .i64 x.cpus, .slice x.lo x.ln x.lc, .slice x.vo x.vn x.vc]] w fun e w' => RetIff e (HMay x.hp) ∧ Below w.heap.size w w' := by
 have hlz : x.hp.zones.length = x.zn := by show (x.zs.map _).length = _; rw [List.length_map]; exact hx.zones.len
 have hlm : x.hp.mins.length = x.mn := hx.mins.len
 have HNo : Hid (∀ e, (e = Ending.returned (.bool false)) → ¬ HMay x.hp → RetIff e (HMay x.hp)) := fun e he hn => ⟨false, he, by simp [hn]⟩
 refine sx_enter (args := [_]) 267 Try.func16 rfl rfl rfl ?_
 intro A f
 refine wp_seq ?_
 refine sx_list ?_
 refine l_box f rfl rfl rfl rfl rfl ?_; clear f A; intro b1 W2 eb1 hb3 rb1 A f; skip
 have hw1 := hb3
 obtain ⟨a0, a1, a2, a3, a4, -⟩ := sts_row (cs := [_, _, _, _, _]) rb1
 have hx1 := hx.below hw1
 have B1 := Below.refl W2.heap.size W2
 refine l_do f rfl rfl rfl (y_assign rfl rfl) ?_; clear f A; intro A f
 refine wpList_nil ?_
 refine x_tn ?_
 refine wp_seq ?_
 refine wp_seq ?_
 refine sx_list ?_
 refine l_do f rfl rfl rfl (y_field rfl rfl (fo rfl)) ?_; clear f A; intro A f
 refine l_do f rfl rfl rfl (y_load1 rfl rfl (ag rfl) (by assumption)) ?_; clear f A; intro A f
 refine l_do f rfl rfl rfl (y_len rfl rfl (sl rfl)) ?_; clear f A; intro A f
 refine l_if _ f rfl rfl rfl (y_neq rfl rfl rfl) ?_ ?_
 ·clear f A; intro c4 A f
  refine l_do f rfl rfl rfl (y_move rfl rfl) ?_; clear f A; intro A f
  refine l_no f rfl rfl rfl ?_; clear f A; intro A f
  refine l_no f rfl rfl rfl ?_; clear f A; intro A f
  refine l_no f rfl rfl rfl ?_; clear f A; intro A f
  refine l_no f rfl rfl rfl ?_; clear f A; intro A f
  refine l_do f rfl rfl rfl (y_pick rfl rfl rfl) ?_; clear f A; intro A f
  refine l_do f rfl rfl rfl (y_move rfl rfl) ?_; clear f A; intro A f
  refine l_no f rfl rfl rfl ?_; clear f A; intro A f
  refine l_no f rfl rfl rfl ?_; clear f A; intro A f
  refine l_no f rfl rfl rfl ?_; clear f A; intro A f
  refine l_no f rfl rfl rfl ?_; clear f A; intro A f
  refine l_do f rfl rfl rfl (y_pick rfl rfl rfl) ?_; clear f A; intro A f
  refine l_do f rfl rfl rfl (y_move rfl rfl) ?_; clear f A; intro A f
  refine l_no f rfl rfl rfl ?_; clear f A; intro A f
  refine l_no f rfl rfl rfl ?_; clear f A; intro A f
  refine l_no f rfl rfl rfl ?_; clear f A; intro A f
  refine l_no f rfl rfl rfl ?_; clear f A; intro A f
  refine l_no f rfl rfl rfl ?_; clear f A; intro A f
  refine l_no f rfl rfl rfl ?_; clear f A; intro A f
  refine l_do f rfl rfl rfl (y_pick rfl rfl rfl) ?_; clear f A; intro A f
  refine l_do f rfl rfl rfl (y_move rfl rfl) ?_; clear f A; intro A f
  refine l_no f rfl rfl rfl ?_; clear f A; intro A f
  refine l_no f rfl rfl rfl ?_; clear f A; intro A f
  refine l_no f rfl rfl rfl ?_; clear f A; intro A f
  refine l_no f rfl rfl rfl ?_; clear f A; intro A f
  refine l_no f rfl rfl rfl ?_; clear f A; intro A f
  refine l_no f rfl rfl rfl ?_; clear f A; intro A f
  refine l_do f rfl rfl rfl (y_pick rfl rfl rfl) ?_; clear f A; intro A f
  refine wpList_nil ?_
  refine x_tn ?_
  refine x_condT f rfl ?_
  refine wp_seq ?_
  refine sx_list ?_
  refine l_do f rfl rfl rfl (y_assign rfl rfl) ?_; clear f A; intro A f
  refine wpList_nil ?_
  refine x_tn ?_
  refine wp_ret ?_
  refine x_tr ?_
  refine x_ret1 f rfl rfl ?_
  exact ⟨HNo.out _ rfl (fun h => by have := h.zs.n; omega), Below.next hw1 B1⟩
 clear f A; intro c4 A f
 refine l_do f rfl rfl rfl (y_move rfl rfl) ?_; clear f A; intro A f
 refine l_do f rfl rfl rfl (y_field rfl rfl (fo rfl)) ?_; clear f A; intro A f
 refine l_do f rfl rfl rfl (y_load1 rfl rfl (ag rfl) (by assumption)) ?_; clear f A; intro A f
 refine l_do f rfl rfl rfl (y_len rfl rfl (sl rfl)) ?_; clear f A; intro A f
 refine l_if _ f rfl rfl rfl (y_neq rfl rfl rfl) ?_ ?_
 ·clear f A; intro c5 A f
  refine l_do f rfl rfl rfl (y_pick rfl rfl rfl) ?_; clear f A; intro A f
  refine l_do f rfl rfl rfl (y_move rfl rfl) ?_; clear f A; intro A f
  refine l_no f rfl rfl rfl ?_; clear f A; intro A f
  refine l_no f rfl rfl rfl ?_; clear f A; intro A f
  refine l_no f rfl rfl rfl ?_; clear f A; intro A f
  refine l_no f rfl rfl rfl ?_; clear f A; intro A f
  refine l_do f rfl rfl rfl (y_pick rfl rfl rfl) ?_; clear f A; intro A f
  refine l_do f rfl rfl rfl (y_move rfl rfl) ?_; clear f A; intro A f
  refine l_no f rfl rfl rfl ?_; clear f A; intro A f
  refine l_no f rfl rfl rfl ?_; clear f A; intro A f
  refine l_no f rfl rfl rfl ?_; clear f A; intro A f
  refine l_no f rfl rfl rfl ?_; clear f A; intro A f
  refine l_no f rfl rfl rfl ?_; clear f A; intro A f
  refine l_no f rfl rfl rfl ?_; clear f A; intro A f
  refine l_do f rfl rfl rfl (y_pick rfl rfl rfl) ?_; clear f A; intro A f
  refine l_do f rfl rfl rfl (y_move rfl rfl) ?_; clear f A; intro A f
  refine l_no f rfl rfl rfl ?_; clear f A; intro A f
  refine l_no f rfl rfl rfl ?_; clear f A; intro A f
  refine l_no f rfl rfl rfl ?_; clear f A; intro A f
  refine l_no f rfl rfl rfl ?_; clear f A; intro A f
  refine l_no f rfl rfl rfl ?_; clear f A; intro A f
  refine l_no f rfl rfl rfl ?_; clear f A; intro A f
  refine l_do f rfl rfl rfl (y_pick rfl rfl rfl) ?_; clear f A; intro A f
  refine wpList_nil ?_
  refine x_tn ?_
  refine x_condT f rfl ?_
  refine wp_seq ?_
  refine sx_list ?_
  refine l_do f rfl rfl rfl (y_assign rfl rfl) ?_; clear f A; intro A f
  refine wpList_nil ?_
  refine x_tn ?_
  refine wp_ret ?_
  refine x_tr ?_
  refine x_ret1 f rfl rfl ?_
  exact ⟨HNo.out _ rfl (fun h => by have := h.mn.n; omega), Below.next hw1 B1⟩
 clear f A; intro c5 A f
 refine l_do f rfl rfl rfl (y_pick rfl rfl rfl) ?_; clear f A; intro A f
 refine l_do f rfl rfl rfl (y_move rfl rfl) ?_; clear f A; intro A f
 refine l_do f rfl rfl rfl (y_field rfl rfl (fo rfl)) ?_; clear f A; intro A f
 refine l_do f rfl rfl rfl (y_load1 rfl rfl (ag rfl) (by assumption)) ?_; clear f A; intro A f
 refine l_callif _ f rfl rfl rfl (IsCall.mk' (cap := []) rfl rfl rfl) (pl rfl) (in_c _ _ _ _) ?_ ?_
 ·clear f A; intro c6 W8 hb7 A f
  replace B1 := Below.next B1 hb7
  refine l_do f rfl rfl rfl (y_not rfl rfl) ?_; clear f A; intro A f
  refine l_do f rfl rfl rfl (y_pick rfl rfl rfl) ?_; clear f A; intro A f
  refine l_do f rfl rfl rfl (y_move rfl rfl) ?_; clear f A; intro A f
  refine l_do f rfl rfl rfl (y_field rfl rfl (fo rfl)) ?_; clear f A; intro A f
  refine l_do f rfl rfl rfl (y_load1 rfl rfl (ag rfl) (St.q a0 B1)) ?_; clear f A; intro A f
  obtain ⟨g0, o0, z0, fo0, fn0, fc0, to0, tn0, tc0, ha0, c00, c10, c20, c30, hat0, hX0⟩ := hx1.zones.at (0) (by omega)
  replace c00 := St.of c00; replace c10 := St.of c10; replace c20 := St.of c20; replace c30 := St.of c30
  have e0 : x.hp.zones.getD 0 ⟨0, 0, [], []⟩ = z0 := by rw [zoneOf_hp, hX0.out]
  have D0 : Decidable (ZMay z0) := Classical.propDecidable _
  refine l_do f rfl rfl rfl (y_index (k := 0) rfl rfl (by first | rfl | assumption) rfl (es rfl) (by omega)) ?_; clear f A; intro A f
  refine l_do f rfl rfl rfl (y_loadN (vs := [_, _, _, _]) rfl rfl (ag rfl) rfl ⟨(St.q c00 B1), (St.q c10 B1), (St.q c20 B1), (St.q c30 B1), trivial⟩) ?_; clear f A; intro A f
  refine l_callif _ f rfl rfl rfl (IsCall.mk' (cap := []) rfl rfl rfl) (pl rfl) (c_iff (zoneMay_any _ _ _ _ _ _ _ _ (hat0.below B1))) ?_ ?_
  ·clear f A; intro c9 W11 hb10 A f
   replace B1 := Below.next B1 hb10
   refine l_do f rfl rfl rfl (y_not rfl rfl) ?_; clear f A; intro A f
   refine l_do f rfl rfl rfl (y_pick rfl rfl rfl) ?_; clear f A; intro A f
   refine l_do f rfl rfl rfl (y_move rfl rfl) ?_; clear f A; intro A f
   refine l_do f rfl rfl rfl (y_field rfl rfl (fo rfl)) ?_; clear f A; intro A f
   refine l_do f rfl rfl rfl (y_load1 rfl rfl (ag rfl) (St.q a0 B1)) ?_; clear f A; intro A f
   obtain ⟨g1, o1, z1, fo1, fn1, fc1, to1, tn1, tc1, ha1, c01, c11, c21, c31, hat1, hX1⟩ := hx1.zones.at (1) (by omega)
   replace c01 := St.of c01; replace c11 := St.of c11; replace c21 := St.of c21; replace c31 := St.of c31
   rw [ha0] at ha1; simp only [Option.some.injEq, Addr.mk.injEq, and_true] at ha1; obtain ⟨rfl, rfl⟩ := ha1
   have e1 : x.hp.zones.getD 1 ⟨0, 0, [], []⟩ = z1 := by rw [zoneOf_hp, hX1.out]
   have D1 : Decidable (ZMay z1) := Classical.propDecidable _
   refine l_do f rfl rfl rfl (y_index (k := 1) rfl rfl (by first | rfl | assumption) rfl (es rfl) (by omega)) ?_; clear f A; intro A f
   refine l_do f rfl rfl rfl (y_loadN (vs := [_, _, _, _]) rfl rfl (ag rfl) rfl ⟨(St.q c01 B1), (St.q c11 B1), (St.q c21 B1), (St.q c31 B1), trivial⟩) ?_; clear f A; intro A f
   refine l_callif _ f rfl rfl rfl (IsCall.mk' (cap := []) rfl rfl rfl) (pl rfl) (c_iff (zoneMay_any _ _ _ _ _ _ _ _ (hat1.below B1))) ?_ ?_
   ·clear f A; intro c12 W14 hb13 A f
    replace B1 := Below.next B1 hb13
    refine l_do f rfl rfl rfl (y_not rfl rfl) ?_; clear f A; intro A f
    refine l_do f rfl rfl rfl (y_pick rfl rfl rfl) ?_; clear f A; intro A f
    refine wpList_nil ?_
    refine x_tn ?_
    refine x_condF f rfl ?_
    refine wp_skip ?_
    refine x_tn ?_
    refine wp_seq ?_
    refine wp_seq ?_
    refine sx_quiet (by kernel_rfl) (by kernel_rfl) ?_
    refine q_do f rfl rfl rfl (y_field rfl rfl (fo rfl)) ?_; clear f A; intro A f
    refine q_do f rfl rfl rfl (y_load1 rfl rfl (ag rfl) (St.q a0 B1)) ?_; clear f A; intro A f
    refine q_do f rfl rfl rfl (y_index (k := 0) rfl rfl (by first | rfl | assumption) rfl (es rfl) (by omega)) ?_; clear f A; intro A f
    refine q_do f rfl rfl rfl (y_field rfl rfl (fo rfl)) ?_; clear f A; intro A f
    refine q_do f rfl rfl rfl (y_load1 rfl rfl (ag rfl) (St.q c00 B1)) ?_; clear f A; intro A f
    refine q_if _ f rfl rfl rfl (y_neq rfl rfl rfl) ?_ ?_
    ·clear f A; intro c15 A f
     refine q_do f rfl rfl rfl (y_move rfl rfl) ?_; clear f A; intro A f
     refine q_no f rfl rfl rfl ?_; clear f A; intro A f
     refine q_no f rfl rfl rfl ?_; clear f A; intro A f
     refine q_no f rfl rfl rfl ?_; clear f A; intro A f
     refine q_no f rfl rfl rfl ?_; clear f A; intro A f
     refine q_no f rfl rfl rfl ?_; clear f A; intro A f
     refine q_no f rfl rfl rfl ?_; clear f A; intro A f
     refine q_no f rfl rfl rfl ?_; clear f A; intro A f
     refine q_no f rfl rfl rfl ?_; clear f A; intro A f
     refine q_no f rfl rfl rfl ?_; clear f A; intro A f
     refine q_no f rfl rfl rfl ?_; clear f A; intro A f
     refine q_no f rfl rfl rfl ?_; clear f A; intro A f
     refine q_do f rfl rfl rfl (y_pick rfl rfl rfl) ?_; clear f A; intro A f
     refine q_do f rfl rfl rfl (y_move rfl rfl) ?_; clear f A; intro A f
     refine q_no f rfl rfl rfl ?_; clear f A; intro A f
     refine q_no f rfl rfl rfl ?_; clear f A; intro A f
     refine q_no f rfl rfl rfl ?_; clear f A; intro A f
     refine q_no f rfl rfl rfl ?_; clear f A; intro A f
     refine q_no f rfl rfl rfl ?_; clear f A; intro A f
     refine q_no f rfl rfl rfl ?_; clear f A; intro A f
     refine q_do f rfl rfl rfl (y_pick rfl rfl rfl) ?_; clear f A; intro A f
     refine q_do f rfl rfl rfl (y_move rfl rfl) ?_; clear f A; intro A f
     refine q_no f rfl rfl rfl ?_; clear f A; intro A f
     refine q_no f rfl rfl rfl ?_; clear f A; intro A f
     refine q_no f rfl rfl rfl ?_; clear f A; intro A f
     refine q_no f rfl rfl rfl ?_; clear f A; intro A f
     refine q_no f rfl rfl rfl ?_; clear f A; intro A f
     refine q_no f rfl rfl rfl ?_; clear f A; intro A f
     refine q_do f rfl rfl rfl (y_pick rfl rfl rfl) ?_; clear f A; intro A f
     refine q_do f rfl rfl rfl (y_move rfl rfl) ?_; clear f A; intro A f
     refine q_no f rfl rfl rfl ?_; clear f A; intro A f
     refine q_no f rfl rfl rfl ?_; clear f A; intro A f
     refine q_no f rfl rfl rfl ?_; clear f A; intro A f
     refine q_no f rfl rfl rfl ?_; clear f A; intro A f
     refine q_no f rfl rfl rfl ?_; clear f A; intro A f
     refine q_no f rfl rfl rfl ?_; clear f A; intro A f
     refine q_do f rfl rfl rfl (y_pick rfl rfl rfl) ?_; clear f A; intro A f
     refine wpQuiet_nil ?_; intro W17 hb16; replace B1 := Below.next B1 hb16
     refine x_tn ?_
     refine x_condT f rfl ?_
     refine wp_seq ?_
     refine sx_list ?_
     refine l_do f rfl rfl rfl (y_assign rfl rfl) ?_; clear f A; intro A f
     refine wpList_nil ?_
     refine x_tn ?_
     refine wp_ret ?_
     refine x_tr ?_
     refine x_ret1 f rfl rfl ?_
     exact ⟨HNo.out _ rfl (fun h => c15 (by have := h.zs.f0; rw [e0] at this; exact this)), Below.next hw1 B1⟩
    clear f A; intro c15 A f
    refine q_do f rfl rfl rfl (y_move rfl rfl) ?_; clear f A; intro A f
    refine q_do f rfl rfl rfl (y_field rfl rfl (fo rfl)) ?_; clear f A; intro A f
    refine q_do f rfl rfl rfl (y_load1 rfl rfl (ag rfl) (St.q a0 B1)) ?_; clear f A; intro A f
    refine q_do f rfl rfl rfl (y_index (k := 1) rfl rfl (by first | rfl | assumption) rfl (es rfl) (by omega)) ?_; clear f A; intro A f
    refine q_do f rfl rfl rfl (y_field rfl rfl (fo rfl)) ?_; clear f A; intro A f
    refine q_do f rfl rfl rfl (y_load1 rfl rfl (ag rfl) (St.q c01 B1)) ?_; clear f A; intro A f
    refine q_do f rfl rfl rfl (y_field rfl rfl (fo rfl)) ?_; clear f A; intro A f
    refine q_do f rfl rfl rfl (y_load1 rfl rfl (ag rfl) (St.q a0 B1)) ?_; clear f A; intro A f
    refine q_do f rfl rfl rfl (y_index (k := 0) rfl rfl (by first | rfl | assumption) rfl (es rfl) (by omega)) ?_; clear f A; intro A f
    refine q_do f rfl rfl rfl (y_field rfl rfl (fo rfl)) ?_; clear f A; intro A f
    refine q_do f rfl rfl rfl (y_load1 rfl rfl (ag rfl) (St.q c10 B1)) ?_; clear f A; intro A f
    refine q_if _ f rfl rfl rfl (y_neq rfl rfl rfl) ?_ ?_
    ·clear f A; intro c18 A f
     refine q_do f rfl rfl rfl (y_pick rfl rfl rfl) ?_; clear f A; intro A f
     refine q_do f rfl rfl rfl (y_move rfl rfl) ?_; clear f A; intro A f
     refine q_no f rfl rfl rfl ?_; clear f A; intro A f
     refine q_no f rfl rfl rfl ?_; clear f A; intro A f
     refine q_no f rfl rfl rfl ?_; clear f A; intro A f
     refine q_no f rfl rfl rfl ?_; clear f A; intro A f
     refine q_no f rfl rfl rfl ?_; clear f A; intro A f
     refine q_no f rfl rfl rfl ?_; clear f A; intro A f
     refine q_do f rfl rfl rfl (y_pick rfl rfl rfl) ?_; clear f A; intro A f
     refine q_do f rfl rfl rfl (y_move rfl rfl) ?_; clear f A; intro A f
     refine q_no f rfl rfl rfl ?_; clear f A; intro A f
     refine q_no f rfl rfl rfl ?_; clear f A; intro A f
     refine q_no f rfl rfl rfl ?_; clear f A; intro A f
     refine q_no f rfl rfl rfl ?_; clear f A; intro A f
     refine q_no f rfl rfl rfl ?_; clear f A; intro A f
     refine q_no f rfl rfl rfl ?_; clear f A; intro A f
     refine q_do f rfl rfl rfl (y_pick rfl rfl rfl) ?_; clear f A; intro A f
     refine q_do f rfl rfl rfl (y_move rfl rfl) ?_; clear f A; intro A f
     refine q_no f rfl rfl rfl ?_; clear f A; intro A f
     refine q_no f rfl rfl rfl ?_; clear f A; intro A f
     refine q_no f rfl rfl rfl ?_; clear f A; intro A f
     refine q_no f rfl rfl rfl ?_; clear f A; intro A f
     refine q_no f rfl rfl rfl ?_; clear f A; intro A f
     refine q_no f rfl rfl rfl ?_; clear f A; intro A f
     refine q_do f rfl rfl rfl (y_pick rfl rfl rfl) ?_; clear f A; intro A f
     refine wpQuiet_nil ?_; intro W20 hb19; replace B1 := Below.next B1 hb19
     refine x_tn ?_
     refine x_condT f rfl ?_
     refine wp_seq ?_
     refine sx_list ?_
     refine l_do f rfl rfl rfl (y_assign rfl rfl) ?_; clear f A; intro A f
     refine wpList_nil ?_
     refine x_tn ?_
     refine wp_ret ?_
     refine x_tr ?_
     refine x_ret1 f rfl rfl ?_
     exact ⟨HNo.out _ rfl (fun h => c18 (by have := h.zs.f1; rw [e0, e1] at this; exact this)), Below.next hw1 B1⟩
    clear f A; intro c18 A f
    refine q_do f rfl rfl rfl (y_pick rfl rfl rfl) ?_; clear f A; intro A f
    refine q_do f rfl rfl rfl (y_move rfl rfl) ?_; clear f A; intro A f
    refine q_do f rfl rfl rfl (y_field rfl rfl (fo rfl)) ?_; clear f A; intro A f
    refine q_do f rfl rfl rfl (y_load1 rfl rfl (ag rfl) (St.q a0 B1)) ?_; clear f A; intro A f
    refine q_do f rfl rfl rfl (y_index (k := 1) rfl rfl (by first | rfl | assumption) rfl (es rfl) (by omega)) ?_; clear f A; intro A f
    refine q_do f rfl rfl rfl (y_field rfl rfl (fo rfl)) ?_; clear f A; intro A f
    refine q_do f rfl rfl rfl (y_load1 rfl rfl (ag rfl) (St.q c11 B1)) ?_; clear f A; intro A f
    refine q_if _ f rfl rfl rfl (y_neq rfl rfl rfl) ?_ ?_
    ·clear f A; intro c21 A f
     refine q_do f rfl rfl rfl (y_pick rfl rfl rfl) ?_; clear f A; intro A f
     refine q_do f rfl rfl rfl (y_move rfl rfl) ?_; clear f A; intro A f
     refine q_no f rfl rfl rfl ?_; clear f A; intro A f
     refine q_no f rfl rfl rfl ?_; clear f A; intro A f
     refine q_no f rfl rfl rfl ?_; clear f A; intro A f
     refine q_no f rfl rfl rfl ?_; clear f A; intro A f
     refine q_no f rfl rfl rfl ?_; clear f A; intro A f
     refine q_no f rfl rfl rfl ?_; clear f A; intro A f
     refine q_do f rfl rfl rfl (y_pick rfl rfl rfl) ?_; clear f A; intro A f
     refine q_do f rfl rfl rfl (y_move rfl rfl) ?_; clear f A; intro A f
     refine q_no f rfl rfl rfl ?_; clear f A; intro A f
     refine q_no f rfl rfl rfl ?_; clear f A; intro A f
     refine q_no f rfl rfl rfl ?_; clear f A; intro A f
     refine q_no f rfl rfl rfl ?_; clear f A; intro A f
     refine q_no f rfl rfl rfl ?_; clear f A; intro A f
     refine q_no f rfl rfl rfl ?_; clear f A; intro A f
     refine q_do f rfl rfl rfl (y_pick rfl rfl rfl) ?_; clear f A; intro A f
     refine wpQuiet_nil ?_; intro W23 hb22; replace B1 := Below.next B1 hb22
     refine x_tn ?_
     refine x_condT f rfl ?_
     refine wp_seq ?_
     refine sx_list ?_
     refine l_do f rfl rfl rfl (y_assign rfl rfl) ?_; clear f A; intro A f
     refine wpList_nil ?_
     refine x_tn ?_
     refine wp_ret ?_
     refine x_tr ?_
     refine x_ret1 f rfl rfl ?_
     exact ⟨HNo.out _ rfl (fun h => c21 (by have := h.zs.t1; rw [e1] at this; exact this)), Below.next hw1 B1⟩
    clear f A; intro c21 A f
    refine q_do f rfl rfl rfl (y_pick rfl rfl rfl) ?_; clear f A; intro A f
    refine q_do f rfl rfl rfl (y_move rfl rfl) ?_; clear f A; intro A f
    refine q_do f rfl rfl rfl (y_field rfl rfl (fo rfl)) ?_; clear f A; intro A f
    refine q_do f rfl rfl rfl (y_load1 rfl rfl (ag rfl) (St.q a1 B1)) ?_; clear f A; intro A f
    have hml := hx1.mins.len
    obtain ⟨gm, om, vm, ham, c0m, hXm⟩ := hx1.mins.at_.at (0) (by omega)
    replace c0m := St.of c0m
    have em0 : x.hp.mins.getD 0 0 = vm := hXm.out
    refine q_do f rfl rfl rfl (y_index (k := 0) rfl rfl (by first | rfl | assumption) rfl (es rfl) (by omega)) ?_; clear f A; intro A f
    refine q_do f rfl rfl rfl (y_load1 rfl rfl (ag rfl) (St.q c0m B1)) ?_; clear f A; intro A f
    refine q_callif _ f rfl rfl rfl (IsCall.mk' (cap := []) rfl rfl rfl) (pl rfl) (c_cl (fun wx => in_c _ _ _ wx)) ?_ ?_
    ·clear f A; intro c24 A f
     refine q_do f rfl rfl rfl (y_not rfl rfl) ?_; clear f A; intro A f
     refine q_do f rfl rfl rfl (y_pick rfl rfl rfl) ?_; clear f A; intro A f
     refine q_do f rfl rfl rfl (y_move rfl rfl) ?_; clear f A; intro A f
     refine q_do f rfl rfl rfl (y_field rfl rfl (fo rfl)) ?_; clear f A; intro A f
     refine q_do f rfl rfl rfl (y_load1 rfl rfl (ag rfl) (St.q a1 B1)) ?_; clear f A; intro A f
     obtain ⟨gn, on, vn, han, c0n, hXn⟩ := hx1.mins.at_.at (1) (by omega)
     replace c0n := St.of c0n
     rw [ham] at han; simp only [Option.some.injEq, Addr.mk.injEq, and_true] at han; obtain ⟨rfl, rfl⟩ := han
     have em1 : x.hp.mins.getD 1 0 = vn := hXn.out
     refine q_do f rfl rfl rfl (y_index (k := 1) rfl rfl (by first | rfl | assumption) rfl (es rfl) (by omega)) ?_; clear f A; intro A f
     refine q_do f rfl rfl rfl (y_load1 rfl rfl (ag rfl) (St.q c0n B1)) ?_; clear f A; intro A f
     refine q_callif _ f rfl rfl rfl (IsCall.mk' (cap := []) rfl rfl rfl) (pl rfl) (c_cl (fun wx => in_c _ _ _ wx)) ?_ ?_
     ·clear f A; intro c25 A f
      refine q_do f rfl rfl rfl (y_not rfl rfl) ?_; clear f A; intro A f
      refine q_do f rfl rfl rfl (y_pick rfl rfl rfl) ?_; clear f A; intro A f
      refine wpQuiet_nil ?_; intro W27 hb26; replace B1 := Below.next B1 hb26
      refine x_tn ?_
      refine x_condF f rfl ?_
      refine wp_skip ?_
      refine x_tn ?_
      refine wp_seq ?_
      refine sx_list ?_
      refine l_alloc (z := .slice none 0 0) f rfl rfl rfl rfl (by kernel_rfl) ?_; clear f A; intro b28 W29 eb28 hb30 rb28 A f; have hz0b28 := B1.size; replace B1 := Below.next B1 hb30
      have hzs : ZsOk x.hp := ⟨by omega, by rw [e0]; assumption, by rw [e1]; assumption, by rw [e0]; omega, by rw [e0, e1]; omega, by rw [e1]; omega⟩
      have hmn : MnOk x.hp := ⟨by omega, by rw [em0]; assumption, by rw [em1]; assumption⟩
      have hcp : 1 ≤ x.cpus ∧ x.cpus ≤ 4 := by assumption
      have HI : HmI W2 W29 b28 b28 [] := ⟨B1, ⟨none, 0, hm_start rb28⟩, by omega, by omega, (Array.getElem?_eq_some_iff.1 rb28).1, apt_nil _, fun i hi => absurd hi (by simp)⟩
      clear rb28
      obtain ⟨ab, hab⟩ : ∃ ab, b28 = ab := ⟨_, rfl⟩
      rw [hab] at f HI
      refine wpList_nil ?_
      refine x_tn ?_
      refine wp_seq ?_
      refine sx_list ?_
      refine l_do f rfl rfl rfl (y_func rfl rfl) ?_; clear f A; intro A f
      refine l_do f rfl rfl rfl (y_assign rfl rfl) ?_; clear f A; intro A f
      refine wpList_nil ?_
      refine x_tn ?_
      refine wp_seq ?_
      refine wp_seq ?_
      refine sx_list ?_
      refine l_do f rfl rfl rfl (y_assign rfl rfl) ?_; clear f A; intro A f
      refine wpList_nil ?_
      refine x_tn ?_
      refine wp_block ?_
      refine x_loop (fun n A W => ∃ i r : Nat, n = 2 - i ∧ i ≤ 2 ∧ Fr A 267 [(1, .pointer (some ⟨b1, 0, none⟩)), (4, .func (.func 38) #[] #[.pointer (some ⟨ab, 0, none⟩)]), (5, .int .i64 (i : Nat))] ∧ HmI W2 W ab r (preL FZ .zero x.zs i 0)) (n0 := 2) (⟨0, _, rfl, by omega, f.sub ⟨rfl, rfl, rfl, trivial⟩, by simpa [preL_zero] using HI⟩) ?_
      clear f A
      clear HI
      rintro n A W31 ⟨i, r, hn, hi, f, HI⟩
      have B1 := HI.B
      refine wp_seq ?_
      refine wp_seq ?_
      refine sx_list ?_
      refine l_do f rfl rfl rfl (y_move rfl rfl) ?_; clear f A; intro A f
      refine l_if _ f rfl rfl rfl (y_lss rfl rfl rfl) ?_ ?_
      ·clear f A; intro c32 A f
       refine wpList_nil ?_
       refine x_tn ?_
       refine x_condT f rfl ?_
       refine wp_skip ?_
       refine x_tn ?_
       refine wp_seq ?_
       refine wp_block ?_
       refine wp_seq ?_
       refine sx_list ?_
       refine l_do f rfl rfl rfl (y_assign rfl rfl) ?_; clear f A; intro A f
       refine wpList_nil ?_
       refine x_tn ?_
       refine wp_block ?_
       obtain ⟨gi, oi, zi, foi, fni, fci, toi, tni, tci, hai, c0i, c1i, c2i, c3i, hati, hXi⟩ := hx1.zones.at (i) (by omega)
       replace c0i := St.of c0i; replace c1i := St.of c1i; replace c2i := St.of c2i; replace c3i := St.of c3i
       rw [ha0] at hai; simp only [Option.some.injEq, Addr.mk.injEq, and_true] at hai; obtain ⟨rfl, rfl⟩ := hai
       have rch := hati.free.reach
       refine x_loop (fun n A W => ∃ k r : Nat, n = fni - k ∧ k ≤ fni ∧ Fr A 267 [(1, .pointer (some ⟨b1, 0, none⟩)), (4, .func (.func 38) #[] #[.pointer (some ⟨ab, 0, none⟩)]), (5, .int .i64 (i : Nat)), (6, .int .i64 (k : Nat))] ∧ HmI W2 W ab r (preL FZ .zero x.zs i k)) (n0 := fni) (⟨0, _, rfl, by omega, f.sub ⟨rfl, rfl, rfl, rfl, trivial⟩, HI⟩) ?_
       clear f A
       clear HI B1
       rintro n A W33 ⟨k, r, hn, hk, f, HI⟩
       have B1 := HI.B
       refine wp_seq ?_
       refine wp_seq ?_
       refine sx_list ?_
       refine l_do f rfl rfl rfl (y_move rfl rfl) ?_; clear f A; intro A f
       refine l_do f rfl rfl rfl (y_field rfl rfl (fo rfl)) ?_; clear f A; intro A f
       refine l_do f rfl rfl rfl (y_load1 rfl rfl (ag rfl) (St.q a0 B1)) ?_; clear f A; intro A f
       refine l_do f rfl rfl rfl (y_move rfl rfl) ?_; clear f A; intro A f
       refine l_do f rfl rfl rfl (y_index rfl rfl (by first | rfl | assumption) rfl (es rfl) (by omega)) ?_; clear f A; intro A f
       refine l_do f rfl rfl rfl (y_field rfl rfl (fo rfl)) ?_; clear f A; intro A f
       refine l_do f rfl rfl rfl (y_load1 rfl rfl (ag rfl) (St.q c2i B1)) ?_; clear f A; intro A f
       refine l_do f rfl rfl rfl (y_len rfl rfl (sl rfl)) ?_; clear f A; intro A f
       refine l_if _ f rfl rfl rfl (y_lss rfl rfl rfl) ?_ ?_
       ·clear f A; intro c34 A f
        refine wpList_nil ?_
        refine x_tn ?_
        refine x_condT f rfl ?_
        refine wp_skip ?_
        refine x_tn ?_
        refine wp_seq ?_
        refine wp_block ?_
        refine wp_seq ?_
        refine sx_list ?_
        refine l_do f rfl rfl rfl (y_move rfl rfl) ?_; clear f A; intro A f
        refine l_do f rfl rfl rfl (y_field rfl rfl (fo rfl)) ?_; clear f A; intro A f
        refine l_do f rfl rfl rfl (y_load1 rfl rfl (ag rfl) (St.q a0 B1)) ?_; clear f A; intro A f
        refine l_do f rfl rfl rfl (y_move rfl rfl) ?_; clear f A; intro A f
        refine l_do f rfl rfl rfl (y_index rfl rfl (by first | rfl | assumption) rfl (es rfl) (by omega)) ?_; clear f A; intro A f
        refine l_do f rfl rfl rfl (y_field rfl rfl (fo rfl)) ?_; clear f A; intro A f
        refine l_do f rfl rfl rfl (y_load1 rfl rfl (ag rfl) (St.q c2i B1)) ?_; clear f A; intro A f
        refine l_do f rfl rfl rfl (y_move rfl rfl) ?_; clear f A; intro A f
        obtain ⟨gb, ob, bab, bob, btb, hab, c0b, c1b, c2b, hXb⟩ := hati.free.at_.at (k) (by have := hati.free.len; omega)
        replace c0b := St.of c0b; replace c1b := St.of c1b; replace c2b := St.of c2b
        have hkl : k < (FZ (x.zs.getD i .zero)).length := by rw [hXi.out]; show k < zi.free.length; have := hati.free.len; omega
        have hpk : (FZ (x.zs.getD i .zero)).getD k .zero = ⟨bab, bob, btb⟩ := by rw [hXi.out]; exact hXb.out
        have hip : InP ⟨bab, bob, btb⟩ := by rw [← hpk]; exact free_at hzs (by have := hx1.zones.len; omega) hkl
        refine l_do f rfl rfl rfl (y_index rfl rfl (by first | rfl | assumption) rfl (es rfl) (by omega)) ?_; clear f A; intro A f
        refine l_do f rfl rfl rfl (y_loadN (vs := [_, _, _]) rfl rfl (ag rfl) rfl ⟨(St.q c0b B1), (St.q c1b B1), (St.q c2b B1), trivial⟩) ?_; clear f A; intro A f
        refine l_call f rfl rfl rfl (IsCall.mk' (cap := [_]) rfl rfl rfl) (pl rfl) (hm_add HI ⟨_, _, _⟩ hip) ?_
        clear f A
        rintro e W35 ⟨r36, ⟨rfl, HI2, hr2, hu2⟩ | ⟨rfl, hov, hb2⟩⟩
        ·have B1 := HI2.B
         refine ⟨_, rfl, ?_⟩; intro A f
         refine l_do f rfl rfl rfl (y_not rfl rfl) ?_; clear f A; intro A f
         refine wpList_nil ?_
         refine x_tn ?_
         refine x_condF f rfl ?_
         refine wp_skip ?_
         refine x_bn ?_
         refine x_tn ?_
         refine sx_list ?_
         refine l_do f rfl rfl rfl (y_move rfl rfl) ?_; clear f A; intro A f
         refine l_do f rfl rfl rfl (y_add rfl rfl rfl rfl (by omega)) ?_; clear f A; intro A f
         refine l_do f rfl rfl rfl (y_assign rfl rfl) ?_; clear f A; intro A f
         refine wpList_nil ?_
         refine x_tn ?_
         exact ⟨fni - (k + 1), by omega, k + 1, _, rfl, by omega, f.sub ⟨rfl, rfl, rfl, rfl, trivial⟩, by rw [preL_succ FZ .zero x.zs i k hkl, hpk]; exact HI2⟩
        replace B1 := Below.next B1 hb2
        have hnz : ¬ Apt [] (placed x.hp) := fun h => by
         rw [placed_x] at h
         obtain ⟨r9, h9⟩ := preL_rest FZ .zero x.zs i (k + 1) (by have := hx1.zones.len; omega)
         rw [h9, preL_succ FZ .zero x.zs i k hkl, hpk, List.append_assoc _ r9] at h
         exact hov (r9 ++ (x.ls.flatMap FL ++ x.live)) (by simpa [List.append_assoc] using h)
        refine ⟨_, rfl, ?_⟩; intro A f
        refine l_do f rfl rfl rfl (y_not rfl rfl) ?_; clear f A; intro A f
        refine wpList_nil ?_
        refine x_tn ?_
        refine x_condT f rfl ?_
        refine wp_seq ?_
        refine sx_list ?_
        refine l_do f rfl rfl rfl (y_assign rfl rfl) ?_; clear f A; intro A f
        refine wpList_nil ?_
        refine x_tn ?_
        refine wp_ret ?_
        refine x_br ?_
        refine x_tr ?_
        refine x_tr ?_
        refine x_br ?_
        refine x_br ?_
        refine x_tr ?_
        refine x_tr ?_
        refine x_br ?_
        refine x_tr ?_
        refine x_ret1 f rfl rfl ?_
        exact ⟨HNo.out _ rfl (fun h => hnz h.apart), Below.next hw1 B1⟩
       clear f A; intro c34 A f
       refine wpList_nil ?_
       refine x_tn ?_
       refine x_condF f rfl ?_
       refine wp_exit ?_
       refine x_te ?_
       refine x_te ?_
       refine x_bh ?_
       refine x_bn ?_
       refine x_tn ?_
       refine sx_list ?_
       refine l_do f rfl rfl rfl (y_move rfl rfl) ?_; clear f A; intro A f
       refine l_do f rfl rfl rfl (y_add rfl rfl rfl rfl (by omega)) ?_; clear f A; intro A f
       refine l_do f rfl rfl rfl (y_assign rfl rfl) ?_; clear f A; intro A f
       refine wpList_nil ?_
       refine x_tn ?_
       exact ⟨2 - (i + 1), by omega, i + 1, r, rfl, by omega, f.sub ⟨rfl, rfl, rfl, trivial⟩, by have := preL_full FZ .zero x.zs i k (by have := hx1.zones.len; omega) (by rw [hXi.out]; exact Nat.le_of_eq (hati.free.len.trans (by omega))); rwa [this] at HI⟩
      clear f A; intro c32 A f
      refine wpList_nil ?_
      refine x_tn ?_
      refine x_condF f rfl ?_
      refine wp_exit ?_
      refine x_te ?_
      refine x_te ?_
      refine x_bh ?_
      refine x_tn ?_
      refine wp_seq ?_
      refine wp_seq ?_
      refine sx_list ?_
      refine l_do f rfl rfl rfl (y_assign rfl rfl) ?_; clear f A; intro A f
      refine wpList_nil ?_
      refine x_tn ?_
      refine wp_block ?_
      have HI0 : HmI W2 W31 ab r (x.zs.flatMap FZ ++ preL FL .zero x.ls 0 0) := by
       have e : preL FZ .zero x.zs i 0 = x.zs.flatMap FZ ++ preL FL .zero x.ls 0 0 := by rw [preL_all FZ .zero x.zs i (by have := hx1.zones.len; omega)]; simp [preL]
       rw [← e]; exact HI
      clear HI
      refine x_loop (fun n A W => ∃ i r : Nat, n = x.ln - i ∧ i ≤ x.ln ∧ Fr A 267 [(1, .pointer (some ⟨b1, 0, none⟩)), (4, .func (.func 38) #[] #[.pointer (some ⟨ab, 0, none⟩)]), (7, .int .i64 (i : Nat))] ∧ HmI W2 W ab r (x.zs.flatMap FZ ++ preL FL .zero x.ls i 0) ∧ LsI x i) (n0 := x.ln) (⟨0, _, rfl, by omega, f.sub ⟨rfl, rfl, rfl, trivial⟩, HI0, LsI.nil x⟩) ?_
      clear f A
      clear HI0 B1
      rintro n A W38 ⟨i, r, hn, hi, f, HI, HL⟩
      have B1 := HI.B
      have lreach := hx1.lists.reach
      refine wp_seq ?_
      refine wp_seq ?_
      refine sx_list ?_
      refine l_do f rfl rfl rfl (y_move rfl rfl) ?_; clear f A; intro A f
      refine l_do f rfl rfl rfl (y_field rfl rfl (fo rfl)) ?_; clear f A; intro A f
      refine l_do f rfl rfl rfl (y_load1 rfl rfl (ag rfl) (St.q a3 B1)) ?_; clear f A; intro A f
      refine l_do f rfl rfl rfl (y_len rfl rfl (sl rfl)) ?_; clear f A; intro A f
      refine l_if _ f rfl rfl rfl (y_lss rfl rfl rfl) ?_ ?_
      ·clear f A; intro c39 A f
       refine wpList_nil ?_
       refine x_tn ?_
       refine x_condT f rfl ?_
       refine wp_skip ?_
       refine x_tn ?_
       refine wp_seq ?_
       refine wp_block ?_
       refine wp_seq ?_
       refine sx_list ?_
       refine l_do f rfl rfl rfl (y_field rfl rfl (fo rfl)) ?_; clear f A; intro A f
       refine l_do f rfl rfl rfl (y_load1 rfl rfl (ag rfl) (St.q a3 B1)) ?_; clear f A; intro A f
       refine l_do f rfl rfl rfl (y_move rfl rfl) ?_; clear f A; intro A f
       obtain ⟨gl, ol, lcl, lzl, ltl, lpl, pol, pnl, pcl, hal, c0l, c1l, c2l, c3l, hatl, hXl⟩ := hx1.lists.at (i) (by omega)
       replace c0l := St.of c0l; replace c1l := St.of c1l; replace c2l := St.of c2l; replace c3l := St.of c3l
       have hL : HMay x.hp → (0 ≤ lcl ∧ lcl < x.cpus) ∧ (0 ≤ lzl ∧ lzl < 2) ∧ (0 ≤ ltl ∧ ltl ≤ 2) ∧ (1 ≤ pnl ∧ pnl ≤ 8) ∧ (∀ j, j < pnl → (x.zs.getD lzl.toNat .zero).z.f ≤ lpl.getD j 0 ∧ lpl.getD j 0 < (x.zs.getD lzl.toNat .zero).z.t) := by
        intro h
        have e := h.ls.ok i (by show i < (x.ls.map _).length; have := hx1.lists.len; rw [List.length_map]; omega)
        rw [listOf_hp, hXl.out] at e
        obtain ⟨q1, q2, q3, q4, q5⟩ := e
        rw [zoneOf_hp] at q5
        have ln := hatl.len
        dsimp only at q1 q2 q3 q4 q5
        unfold typeOk at q3
        rw [ln] at q4 q5
        exact ⟨q1, q2, q3, q4, q5⟩
       refine l_do f rfl rfl rfl (y_index rfl rfl (by first | rfl | assumption) rfl (es rfl) (by omega)) ?_; clear f A; intro A f
       refine l_do f rfl rfl rfl (y_loadN (vs := [_, _, _, _]) rfl rfl (ag rfl) rfl ⟨(St.q c0l B1), (St.q c1l B1), (St.q c2l B1), (St.q c3l B1), trivial⟩) ?_; clear f A; intro A f
       have hlr := HI.hl
       have hla := HI.lab
       refine l_as (z := .agg #[.int .i64 0, .int .i64 0, .int .i64 0, .slice none 0 0]) f rfl rfl rfl rfl (by kernel_rfl) rfl rfl (fun _ => rfl) (fun _ => rfl) rfl (by intro u hu; simp [Value.cells] at hu; rcases hu with rfl | rfl | rfl | rfl <;> rfl) ?_; clear f A; intro b40 W41 eb40 hb42 rb40 A f
       have hpb40 := hb42; replace B1 := Below.next B1 hb42; replace HI := HI.below hb42
       obtain ⟨s0, s1, s2, s3, -⟩ := sts_row (cs := [_, _, _, _]) rb40
       have Bl := Below.refl W41.heap.size W41
       have qsl : r < b40 := by have := hlr; omega
       have qal : ab < b40 := by have := hla; omega
       refine wpList_nil ?_
       refine x_tn ?_
       refine wp_seq ?_
       refine wp_seq ?_
       refine sx_quiet (by kernel_rfl) (by kernel_rfl) ?_
       refine q_do f rfl rfl rfl (y_field rfl rfl (fo rfl)) ?_; clear f A; intro A f
       refine q_do f rfl rfl rfl (y_load1 rfl rfl (ag rfl) (by assumption)) ?_; clear f A; intro A f
       refine q_do f rfl rfl rfl (y_field rfl rfl (fo rfl)) ?_; clear f A; intro A f
       refine q_do f rfl rfl rfl (y_load1 rfl rfl (ag rfl) (St.q a2 B1)) ?_; clear f A; intro A f
       refine q_do f rfl rfl rfl (y_sub rfl rfl rfl rfl (by omega)) ?_; clear f A; intro A f
       refine q_callif _ f rfl rfl rfl (IsCall.mk' (cap := []) rfl rfl rfl) (pl rfl) (c_cl (fun wx => in_c _ _ _ wx)) ?_ ?_
       ·clear f A; intro c43 A f
        refine q_do f rfl rfl rfl (y_not rfl rfl) ?_; clear f A; intro A f
        refine q_do f rfl rfl rfl (y_move rfl rfl) ?_; clear f A; intro A f
        refine q_do f rfl rfl rfl (y_field rfl rfl (fo rfl)) ?_; clear f A; intro A f
        refine q_do f rfl rfl rfl (y_load1 rfl rfl (ag rfl) (by assumption)) ?_; clear f A; intro A f
        refine q_callif _ f rfl rfl rfl (IsCall.mk' (cap := []) rfl rfl rfl) (pl rfl) (c_cl (fun wx => in_c _ _ _ wx)) ?_ ?_
        ·clear f A; intro c44 A f
         refine q_do f rfl rfl rfl (y_not rfl rfl) ?_; clear f A; intro A f
         refine q_do f rfl rfl rfl (y_pick rfl rfl rfl) ?_; clear f A; intro A f
         refine q_do f rfl rfl rfl (y_move rfl rfl) ?_; clear f A; intro A f
         refine q_do f rfl rfl rfl (y_field rfl rfl (fo rfl)) ?_; clear f A; intro A f
         refine q_do f rfl rfl rfl (y_load1 rfl rfl (ag rfl) (by assumption)) ?_; clear f A; intro A f
         refine q_callif _ f rfl rfl rfl (IsCall.mk' (cap := []) rfl rfl rfl) (pl rfl) (c_cl (fun wx => in_c _ _ _ wx)) ?_ ?_
         ·clear f A; intro c45 A f
          refine q_do f rfl rfl rfl (y_not rfl rfl) ?_; clear f A; intro A f
          refine q_do f rfl rfl rfl (y_pick rfl rfl rfl) ?_; clear f A; intro A f
          refine q_do f rfl rfl rfl (y_move rfl rfl) ?_; clear f A; intro A f
          refine q_do f rfl rfl rfl (y_field rfl rfl (fo rfl)) ?_; clear f A; intro A f
          refine q_do f rfl rfl rfl (y_load1 rfl rfl (ag rfl) (by assumption)) ?_; clear f A; intro A f
          refine q_do f rfl rfl rfl (y_len rfl rfl (sl rfl)) ?_; clear f A; intro A f
          refine q_callif _ f rfl rfl rfl (IsCall.mk' (cap := []) rfl rfl rfl) (pl rfl) (c_cl (fun wx => in_c _ _ _ wx)) ?_ ?_
          ·clear f A; intro c46 A f
           refine q_do f rfl rfl rfl (y_not rfl rfl) ?_; clear f A; intro A f
           refine q_do f rfl rfl rfl (y_pick rfl rfl rfl) ?_; clear f A; intro A f
           refine q_do f rfl rfl rfl (y_move rfl rfl) ?_; clear f A; intro A f
           refine q_do f rfl rfl rfl (y_move rfl rfl) ?_; clear f A; intro A f
           refine q_if _ f rfl rfl rfl (y_gtr rfl rfl rfl) ?_ ?_
           ·clear f A; intro c47 A f
            refine q_do f rfl rfl rfl (y_move rfl rfl) ?_; clear f A; intro A f
            refine q_do f rfl rfl rfl (y_field rfl rfl (fo rfl)) ?_; clear f A; intro A f
            refine q_do f rfl rfl rfl (y_load1 rfl rfl (ag rfl) (St.q a3 B1)) ?_; clear f A; intro A f
            refine q_do f rfl rfl rfl (y_move rfl rfl) ?_; clear f A; intro A f
            refine q_do f rfl rfl rfl (y_sub (c := ((i - 1 : Nat) : Int)) rfl rfl rfl (by omega) (by omega)) ?_; clear f A; intro A f
            obtain ⟨gp, op, lcp, lzp, ltp, lpp, pop, pnp, pcp, hap, c0p, c1p, c2p, c3p, hatp, hXp⟩ := hx1.lists.at (i - 1) (by omega)
            replace c0p := St.of c0p; replace c1p := St.of c1p; replace c2p := St.of c2p; replace c3p := St.of c3p
            rw [hal] at hap; simp only [Option.some.injEq, Addr.mk.injEq, and_true] at hap; obtain ⟨rfl, rfl⟩ := hap
            have Da : Decidable (aheadL ⟨lcp, lzp, ltp, lpp⟩ ⟨lcl, lzl, ltl, lpl⟩) := Classical.propDecidable _
            have hO : HMay x.hp → aheadL ⟨lcp, lzp, ltp, lpp⟩ ⟨lcl, lzl, ltl, lpl⟩ := by
             intro h
             have e := h.ls.ord i (by omega) (by show i < (x.ls.map _).length; have := hx1.lists.len; rw [List.length_map]; omega)
             rw [listOf_hp, listOf_hp, hXp.out, hXl.out] at e
             exact e
            refine q_do f rfl rfl rfl (y_index rfl rfl (by first | rfl | assumption) rfl (es rfl) (by omega)) ?_; clear f A; intro A f
            refine q_do f rfl rfl rfl (y_loadN (vs := [_, _, _, _]) rfl rfl (ag rfl) rfl ⟨(St.q c0p B1), (St.q c1p B1), (St.q c2p B1), (St.q c3p B1), trivial⟩) ?_; clear f A; intro A f
            refine q_do f rfl rfl rfl (y_loadN (vs := [_, _, _, _]) rfl rfl (ag rfl) rfl ⟨(by assumption), (by assumption), (by assumption), (by assumption), trivial⟩) ?_; clear f A; intro A f
            refine q_callif _ f rfl rfl rfl (IsCall.mk' (cap := []) rfl rfl rfl) (pl rfl) (c_cl (fun wx => ahead_c ⟨lcp, lzp, ltp, lpp⟩ ⟨lcl, lzl, ltl, lpl⟩ _ _ wx)) ?_ ?_
            ·clear f A; intro c48 A f
             refine q_do f rfl rfl rfl (y_not rfl rfl) ?_; clear f A; intro A f
             refine q_do f rfl rfl rfl (y_pick rfl rfl rfl) ?_; clear f A; intro A f
             refine q_do f rfl rfl rfl (y_pick rfl rfl rfl) ?_; clear f A; intro A f
             refine wpQuiet_nil ?_; intro W50 hb49; replace B1 := Below.next B1 hb49; replace HI := HI.below hb49; replace Bl := Below.next Bl hb49
             refine x_tn ?_
             refine x_condF f rfl ?_
             refine wp_skip ?_
             refine x_tn ?_
             refine wp_seq ?_
             refine sx_list ?_
             refine l_do f rfl rfl rfl (y_assign rfl rfl) ?_; clear f A; intro A f
             refine wpList_nil ?_
             refine x_tn ?_
             refine wp_block ?_
             obtain ⟨gq, oq, zq, foq, fnq, fcq, toq, tnq, tcq, haq, c0q, c1q, c2q, c3q, hatq, hXq⟩ := hx1.zones.at (lzl.toNat) (by omega)
             replace c0q := St.of c0q; replace c1q := St.of c1q; replace c2q := St.of c2q; replace c3q := St.of c3q
             rw [ha0] at haq; simp only [Option.some.injEq, Addr.mk.injEq, and_true] at haq; obtain ⟨rfl, rfl⟩ := haq
             have hzq : (x.zs.getD lzl.toNat .zero).z = zq := by rw [hXq.out]
             have hbd := zone_bd hzs (i := lzl.toNat) (by have := hx1.zones.len; omega)
             rw [hzq] at hbd
             have hzn : (lzl.toNat : Int) = lzl := by omega
             have hLo : 0 < i → aheadL (x.ls.getD (i - 1) .zero).l (x.ls.getD i .zero).l := by
              intro h0
              first
              | (exfalso; omega)
              | (rw [hXp.out, hXl.out]; assumption)
             have rbl := row_next rb40 Bl
             have hblr : b40 ≠ r := by have := HI.hl; have := qsl; omega
             have hbla : b40 ≠ ab := by have := qal; omega
             clear Bl qsl qal
             obtain ⟨bl, hbl⟩ : ∃ bl, b40 = bl := ⟨_, rfl⟩
             rw [hbl] at f rbl hblr hbla
             obtain ⟨zf, hzf⟩ : ∃ v, zq.f = v := ⟨_, rfl⟩
             obtain ⟨zt, hzt⟩ : ∃ v, zq.t = v := ⟨_, rfl⟩
             rw [hzf] at hbd c0q
             rw [hzt] at hbd c1q
             have prch := hatl.reach
             refine x_loop (fun n A W => ∃ k r : Nat, n = pnl - k ∧ k ≤ pnl ∧ Fr A 267 [(1, .pointer (some ⟨b1, 0, none⟩)), (4, .func (.func 38) #[] #[.pointer (some ⟨ab, 0, none⟩)]), (7, .int .i64 (i : Nat)), (8, .pointer (some ⟨bl, 0, none⟩)), (9, .int .i64 (k : Nat))] ∧ HmI W2 W ab r (x.zs.flatMap FZ ++ preL FL .zero x.ls i k) ∧ W.heap[bl]? = some (.cells #[.int .i64 lcl, .int .i64 lzl, .int .i64 ltl, .slice pol pnl pcl] 77 (0, 0)) ∧ bl ≠ r ∧ (∀ j, j < k → zf ≤ lpl.getD j 0 ∧ lpl.getD j 0 < zt)) (n0 := pnl) (⟨0, _, rfl, by omega, f.sub ⟨rfl, rfl, rfl, rfl, rfl, trivial⟩, HI, rbl, hblr, fun j hj => by omega⟩) ?_
             clear f A
             clear HI B1 rbl hblr
             rintro n A W51 ⟨k, r, hn, hk, f, HI, rbl, hblr, hpgs⟩
             have B1 := HI.B
             obtain ⟨s0, s1, s2, s3, -⟩ := sts_row (cs := [_, _, _, _]) rbl
             have Bl := Below.refl W51.heap.size W51
             have hLs : pnl ≤ k → LsOk x.hp (x.ls.getD i .zero).l := by
              intro h0
              rw [hXl.out]
              refine ⟨⟨by dsimp only; omega, by have e : x.hp.cpus = x.cpus := rfl; dsimp only; omega⟩, by dsimp only; omega, by unfold typeOk; dsimp only; omega, by have := hatl.len; dsimp only; omega, fun j hj => ?_⟩
              rw [zoneOf_hp]
              dsimp only
              rw [hzq, hzf, hzt]
              exact hpgs j (by have := hatl.len; dsimp only at hj; omega)
             refine wp_seq ?_
             refine wp_seq ?_
             refine sx_list ?_
             refine l_do f rfl rfl rfl (y_move rfl rfl) ?_; clear f A; intro A f
             refine l_do f rfl rfl rfl (y_field rfl rfl (fo rfl)) ?_; clear f A; intro A f
             refine l_do f rfl rfl rfl (y_load1 rfl rfl (ag rfl) (by assumption)) ?_; clear f A; intro A f
             refine l_do f rfl rfl rfl (y_len rfl rfl (sl rfl)) ?_; clear f A; intro A f
             refine l_if _ f rfl rfl rfl (y_lss rfl rfl rfl) ?_ ?_
             ·clear f A; intro c52 A f
              refine wpList_nil ?_
              refine x_tn ?_
              refine x_condT f rfl ?_
              refine wp_skip ?_
              refine x_tn ?_
              refine wp_seq ?_
              refine wp_block ?_
              refine wp_seq ?_
              have HB1 : ∀ wx, Bu2 r ab W51 wx → Below W2.heap.size W2 wx := fun wx h => HI.B.trans (h.below HI.hr HI.h HI.B.size)
              have h0 : StC (fun wx => Bu2 r ab W51 wx) _ _ := fun wx h => h.cell (St.now (s0.next Bl)) hblr hbla
              have h1 : StC (fun wx => Bu2 r ab W51 wx) _ _ := fun wx h => h.cell (St.now (s1.next Bl)) hblr hbla
              have h2 : StC (fun wx => Bu2 r ab W51 wx) _ _ := fun wx h => h.cell (St.now (s2.next Bl)) hblr hbla
              have h3 : StC (fun wx => Bu2 r ab W51 wx) _ _ := fun wx h => h.cell (St.now (s3.next Bl)) hblr hbla
              refine sx_held (fun wx => Bu2 r ab W51 wx) [20, 30] (by kernel_rfl) (by kernel_rfl) (blind_then (blind_in (blind_then (blind_then (blind_in (blind_in (blind_then (blind_then (blind_in (blind_then (blind_body))))))))))) (Bu2.start r ab rfl) ?_
              generalize hWd : ({ W51 with drawn := W51.drawn + 1 } : World) = W53
              have hS : Bu2 r ab W51 W53 := Bu2.start r ab hWd
              replace B1 := HB1 _ hS
              replace HI := HI.below (drawn_b hWd)
              clear hWd
              refine h_do f rfl rfl rfl rfl (y_field rfl rfl (fo rfl)) ?_; clear f A; intro A f
              refine h_do f rfl rfl rfl rfl (y_load1 rfl rfl (ag rfl) (by assumption)) ?_; clear f A; intro A f
              refine h_do f rfl rfl rfl rfl (y_move rfl rfl) ?_; clear f A; intro A f
              obtain ⟨gg, og, vg, hag, c0g, hXg⟩ := hatl.at_.at (k) (by have := hatl.len; omega)
              replace c0g := St.of c0g
              rw [show og + k = og + k * 1 by omega] at c0g
              have hPg : HMay x.hp → zf ≤ vg ∧ vg < zt := by
               intro h
               have e := (hL h).2.2.2.2 k (by omega)
               rw [hzq, hzf, hzt, hXg.out] at e
               exact e
              have hkl : k < (FL (x.ls.getD i .zero)).length := by rw [hXl.out]; show k < (lpl.map pgB).length; have := hatl.len; rw [List.length_map]; omega
              have hpk : (FL (x.ls.getD i .zero)).getD k .zero = ⟨vg, 0, 0⟩ := by
               rw [hXl.out]; show (lpl.map pgB).getD k .zero = _
               rw [getD_map lpl pgB k 0 _ (by have := hatl.len; omega), hXg.out]; rfl
              refine h_do f rfl rfl rfl rfl (y_index rfl rfl (by first | rfl | assumption) rfl (es rfl) (by omega)) ?_; clear f A; intro A f
              refine h_do f rfl rfl rfl rfl (y_load1 rfl rfl (ag rfl) (St.c c0g HB1)) ?_; clear f A; intro A f
              refine h_do f rfl rfl rfl rfl (y_field rfl rfl (fo rfl)) ?_; clear f A; intro A f
              refine h_do f rfl rfl rfl rfl (y_load1 rfl rfl (ag rfl) (St.c a0 HB1)) ?_; clear f A; intro A f
              refine h_do f rfl rfl rfl rfl (y_field rfl rfl (fo rfl)) ?_; clear f A; intro A f
              refine h_do f rfl rfl rfl rfl (y_load1 rfl rfl (ag rfl) (by assumption)) ?_; clear f A; intro A f
              refine h_do f rfl rfl rfl rfl (y_indexI rfl rfl (by assumption) rfl (es rfl) (by omega) (by omega)) ?_; clear f A; intro A f
              refine h_do f rfl rfl rfl rfl (y_field rfl rfl (fo rfl)) ?_; clear f A; intro A f
              refine h_do f rfl rfl rfl rfl (y_load1 rfl rfl (ag rfl) (St.c c0q HB1)) ?_; clear f A; intro A f
              refine h_do f rfl rfl rfl rfl (y_field rfl rfl (fo rfl)) ?_; clear f A; intro A f
              refine h_do f rfl rfl rfl rfl (y_load1 rfl rfl (ag rfl) (St.c a0 HB1)) ?_; clear f A; intro A f
              refine h_do f rfl rfl rfl rfl (y_field rfl rfl (fo rfl)) ?_; clear f A; intro A f
              refine h_do f rfl rfl rfl rfl (y_load1 rfl rfl (ag rfl) (by assumption)) ?_; clear f A; intro A f
              refine h_do f rfl rfl rfl rfl (y_indexI rfl rfl (by assumption) rfl (es rfl) (by omega) (by omega)) ?_; clear f A; intro A f
              refine h_do f rfl rfl rfl rfl (y_field rfl rfl (fo rfl)) ?_; clear f A; intro A f
              refine h_do f rfl rfl rfl rfl (y_load1 rfl rfl (ag rfl) (St.c c1q HB1)) ?_; clear f A; intro A f
              refine h_do f rfl rfl rfl rfl (y_sub rfl rfl rfl rfl (by omega)) ?_; clear f A; intro A f
              refine h_callif _ f rfl rfl rfl rfl (IsCall.mk' (cap := []) rfl rfl rfl) (pl rfl) (in_c _ _ _ _) (fun _ hb => hS.trans (Bu2.of_below hb)) ?_ ?_
              ·clear f A; intro c56 W55 hb54 A f
               replace B1 := Below.next B1 hb54; replace HI := HI.below hb54; replace hS := hS.grow hb54
               refine h_do f rfl rfl rfl rfl (y_not rfl rfl) ?_; clear f A; intro A f
               refine h_do f rfl rfl rfl rfl (y_move rfl rfl) ?_; clear f A; intro A f
               refine h_do f rfl rfl rfl rfl (y_move rfl rfl) ?_; clear f A; intro A f
               refine h_do f rfl rfl rfl rfl (y_field rfl rfl (fo rfl)) ?_; clear f A; intro A f
               refine h_do f rfl rfl rfl rfl (y_load1 rfl rfl (ag rfl) (by assumption)) ?_; clear f A; intro A f
               refine h_do f rfl rfl rfl rfl (y_move rfl rfl) ?_; clear f A; intro A f
               refine h_do f rfl rfl rfl rfl (y_index rfl rfl (by first | rfl | assumption) rfl (es rfl) (by omega)) ?_; clear f A; intro A f
               refine h_do f rfl rfl rfl rfl (y_load1 rfl rfl (ag rfl) (St.c c0g HB1)) ?_; clear f A; intro A f
               have hip : InP ⟨vg, 0, 0⟩ := ⟨(by decide : (0 : Int) ≤ 0 ∧ (0 : Int) ≤ 4), by dsimp only; omega, by dsimp only [pw]; simp only [Int.toNat_zero, Nat.pow_zero]; omega⟩
               refine h_do f rfl rfl rfl rfl (y_build #[.int .i64 vg, .int .i64 0, .int .i64 0] rfl rfl (by kernel_rfl)) ?_; clear f A; intro A f
               refine h_call f rfl rfl rfl rfl (IsCall.mk' (cap := [_]) rfl rfl rfl) (pl rfl) (hm_add HI ⟨_, _, _⟩ hip) ?_
               clear f A
               rintro e W57 ⟨r58, ⟨rfl, HI2, hr2, hu2⟩ | ⟨rfl, hov, hb2⟩⟩
               ·have B1 := HI2.B
                have hS2 := hS.trans hu2
                refine ⟨_, rfl, hS2, ?_⟩; intro A f
                refine h_do f rfl rfl rfl rfl (y_not rfl rfl) ?_; clear f A; intro A f
                refine h_do f rfl rfl rfl rfl (y_pick rfl rfl rfl) ?_; clear f A; intro A f
                refine h_nil ?_
                refine x_tn ?_
                refine x_condF f rfl ?_
                refine wp_skip ?_
                refine x_bn ?_
                refine x_tn ?_
                refine sx_list ?_
                refine l_do f rfl rfl rfl (y_move rfl rfl) ?_; clear f A; intro A f
                refine l_do f rfl rfl rfl (y_add rfl rfl rfl rfl (by omega)) ?_; clear f A; intro A f
                refine l_do f rfl rfl rfl (y_assign rfl rfl) ?_; clear f A; intro A f
                refine wpList_nil ?_
                refine x_tn ?_
                exact ⟨pnl - (k + 1), by omega, k + 1, _, rfl, by omega, f.sub ⟨rfl, rfl, rfl, rfl, rfl, trivial⟩, by rw [preL_succ FL .zero x.ls i k hkl, hpk, ← List.append_assoc]; exact HI2, hS2.row rbl hblr hbla, by have := (Array.getElem?_eq_some_iff.1 rbl).1; have := hS.size; rcases hr2 with e | e <;> omega, fun j hj => by by_cases e : j = k; rw [e, hXg.out]; omega; exact hpgs j (by omega)⟩
               replace B1 := Below.next B1 hb2
               have hnz : ¬ Apt [] (placed x.hp) := fun h => by
                rw [placed_x] at h
                obtain ⟨r9, h9⟩ := preL_rest FL .zero x.ls i (k + 1) (by have := hx1.lists.len; omega)
                rw [h9, preL_succ FL .zero x.ls i k hkl, hpk] at h
                exact hov (r9 ++ x.live) (by simpa [List.append_assoc] using h)
               have hS2 := hS.trans (Bu2.of_below hb2)
               refine ⟨_, rfl, hS2, ?_⟩; intro A f
               refine h_do f rfl rfl rfl rfl (y_not rfl rfl) ?_; clear f A; intro A f
               refine h_do f rfl rfl rfl rfl (y_pick rfl rfl rfl) ?_; clear f A; intro A f
               refine h_nil ?_
               refine x_tn ?_
               refine x_condT f rfl ?_
               refine wp_seq ?_
               refine sx_list ?_
               refine l_do f rfl rfl rfl (y_assign rfl rfl) ?_; clear f A; intro A f
               refine wpList_nil ?_
               refine x_tn ?_
               refine wp_ret ?_
               refine x_br ?_
               refine x_tr ?_
               refine x_tr ?_
               refine x_br ?_
               refine x_br ?_
               refine x_tr ?_
               refine x_tr ?_
               refine x_br ?_
               refine x_tr ?_
               refine x_ret1 f rfl rfl ?_
               exact ⟨HNo.out _ rfl (fun h => hnz h.apart), Below.next hw1 B1⟩
              clear f A; intro c56 W55 hb54 A f
              replace B1 := Below.next B1 hb54; replace HI := HI.below hb54; replace hS := hS.grow hb54
              refine h_do f rfl rfl rfl rfl (y_not rfl rfl) ?_; clear f A; intro A f
              refine h_do f rfl rfl rfl rfl (y_move rfl rfl) ?_; clear f A; intro A f
              refine h_no f rfl rfl rfl ?_; clear f A; intro A f
              refine h_no f rfl rfl rfl ?_; clear f A; intro A f
              refine h_no f rfl rfl rfl ?_; clear f A; intro A f
              refine h_no f rfl rfl rfl ?_; clear f A; intro A f
              refine h_no f rfl rfl rfl ?_; clear f A; intro A f
              refine h_no f rfl rfl rfl ?_; clear f A; intro A f
              refine h_no f rfl rfl rfl ?_; clear f A; intro A f
              refine h_no f rfl rfl rfl ?_; clear f A; intro A f
              refine h_no f rfl rfl rfl ?_; clear f A; intro A f
              refine h_do f rfl rfl rfl rfl (y_pick rfl rfl rfl) ?_; clear f A; intro A f
              refine h_nil ?_
              refine x_tn ?_
              refine x_condT f rfl ?_
              refine wp_seq ?_
              refine sx_list ?_
              refine l_do f rfl rfl rfl (y_assign rfl rfl) ?_; clear f A; intro A f
              refine wpList_nil ?_
              refine x_tn ?_
              refine wp_ret ?_
              refine x_br ?_
              refine x_tr ?_
              refine x_tr ?_
              refine x_br ?_
              refine x_br ?_
              refine x_tr ?_
              refine x_tr ?_
              refine x_br ?_
              refine x_tr ?_
              refine x_ret1 f rfl rfl ?_
              exact ⟨HNo.out _ rfl (fun h => by have := hPg h; omega), Below.next hw1 B1⟩
             clear f A; intro c52 A f
             refine wpList_nil ?_
             refine x_tn ?_
             refine x_condF f rfl ?_
             refine wp_exit ?_
             refine x_te ?_
             refine x_te ?_
             refine x_bh ?_
             refine x_bn ?_
             refine x_tn ?_
             refine sx_list ?_
             refine l_do f rfl rfl rfl (y_move rfl rfl) ?_; clear f A; intro A f
             refine l_do f rfl rfl rfl (y_add rfl rfl rfl rfl (by omega)) ?_; clear f A; intro A f
             refine l_do f rfl rfl rfl (y_assign rfl rfl) ?_; clear f A; intro A f
             refine wpList_nil ?_
             refine x_tn ?_
             exact ⟨x.ln - (i + 1), by omega, i + 1, r, rfl, by omega, f.sub ⟨rfl, rfl, rfl, trivial⟩, by have := preL_full FL .zero x.ls i k (by have := hx1.lists.len; omega) (by rw [hXl.out]; show (lpl.map pgB).length ≤ k; have := hatl.len; rw [List.length_map]; omega); rwa [this] at HI, HL.succ (hLs (by omega)) hLo⟩
            clear f A; intro c48 A f
            refine q_do f rfl rfl rfl (y_not rfl rfl) ?_; clear f A; intro A f
            refine q_do f rfl rfl rfl (y_pick rfl rfl rfl) ?_; clear f A; intro A f
            refine q_do f rfl rfl rfl (y_pick rfl rfl rfl) ?_; clear f A; intro A f
            refine wpQuiet_nil ?_; intro W61 hb60; replace B1 := Below.next B1 hb60; replace HI := HI.below hb60; replace Bl := Below.next Bl hb60
            refine x_tn ?_
            refine x_condT f rfl ?_
            refine wp_seq ?_
            refine sx_list ?_
            refine l_do f rfl rfl rfl (y_assign rfl rfl) ?_; clear f A; intro A f
            refine wpList_nil ?_
            refine x_tn ?_
            refine wp_ret ?_
            refine x_tr ?_
            refine x_br ?_
            refine x_tr ?_
            refine x_tr ?_
            refine x_br ?_
            refine x_tr ?_
            refine x_ret1 f rfl rfl ?_
            exact ⟨HNo.out _ rfl (fun h => c48 (hO h)), Below.next hw1 B1⟩
           clear f A; intro c47 A f
           refine q_do f rfl rfl rfl (y_move rfl rfl) ?_; clear f A; intro A f
           refine q_no f rfl rfl rfl ?_; clear f A; intro A f
           refine q_no f rfl rfl rfl ?_; clear f A; intro A f
           refine q_no f rfl rfl rfl ?_; clear f A; intro A f
           refine q_no f rfl rfl rfl ?_; clear f A; intro A f
           refine q_no f rfl rfl rfl ?_; clear f A; intro A f
           refine q_no f rfl rfl rfl ?_; clear f A; intro A f
           refine q_no f rfl rfl rfl ?_; clear f A; intro A f
           refine q_no f rfl rfl rfl ?_; clear f A; intro A f
           refine q_no f rfl rfl rfl ?_; clear f A; intro A f
           refine q_do f rfl rfl rfl (y_pick rfl rfl rfl) ?_; clear f A; intro A f
           refine q_do f rfl rfl rfl (y_pick rfl rfl rfl) ?_; clear f A; intro A f
           refine wpQuiet_nil ?_; intro W63 hb62; replace B1 := Below.next B1 hb62; replace HI := HI.below hb62; replace Bl := Below.next Bl hb62
           refine x_tn ?_
           refine x_condF f rfl ?_
           refine wp_skip ?_
           refine x_tn ?_
           refine wp_seq ?_
           refine sx_list ?_
           refine l_do f rfl rfl rfl (y_assign rfl rfl) ?_; clear f A; intro A f
           refine wpList_nil ?_
           refine x_tn ?_
           refine wp_block ?_
           obtain ⟨gq, oq, zq, foq, fnq, fcq, toq, tnq, tcq, haq, c0q, c1q, c2q, c3q, hatq, hXq⟩ := hx1.zones.at (lzl.toNat) (by omega)
           replace c0q := St.of c0q; replace c1q := St.of c1q; replace c2q := St.of c2q; replace c3q := St.of c3q
           rw [ha0] at haq; simp only [Option.some.injEq, Addr.mk.injEq, and_true] at haq; obtain ⟨rfl, rfl⟩ := haq
           have hzq : (x.zs.getD lzl.toNat .zero).z = zq := by rw [hXq.out]
           have hbd := zone_bd hzs (i := lzl.toNat) (by have := hx1.zones.len; omega)
           rw [hzq] at hbd
           have hzn : (lzl.toNat : Int) = lzl := by omega
           have hLo : 0 < i → aheadL (x.ls.getD (i - 1) .zero).l (x.ls.getD i .zero).l := by
            intro h0
            first
            | (exfalso; omega)
            | (rw [hXp.out, hXl.out]; assumption)
           have rbl := row_next rb40 Bl
           have hblr : b40 ≠ r := by have := HI.hl; have := qsl; omega
           have hbla : b40 ≠ ab := by have := qal; omega
           clear Bl qsl qal
           obtain ⟨bl, hbl⟩ : ∃ bl, b40 = bl := ⟨_, rfl⟩
           rw [hbl] at f rbl hblr hbla
           obtain ⟨zf, hzf⟩ : ∃ v, zq.f = v := ⟨_, rfl⟩
           obtain ⟨zt, hzt⟩ : ∃ v, zq.t = v := ⟨_, rfl⟩
           rw [hzf] at hbd c0q
           rw [hzt] at hbd c1q
           have prch := hatl.reach
           refine x_loop (fun n A W => ∃ k r : Nat, n = pnl - k ∧ k ≤ pnl ∧ Fr A 267 [(1, .pointer (some ⟨b1, 0, none⟩)), (4, .func (.func 38) #[] #[.pointer (some ⟨ab, 0, none⟩)]), (7, .int .i64 (i : Nat)), (8, .pointer (some ⟨bl, 0, none⟩)), (9, .int .i64 (k : Nat))] ∧ HmI W2 W ab r (x.zs.flatMap FZ ++ preL FL .zero x.ls i k) ∧ W.heap[bl]? = some (.cells #[.int .i64 lcl, .int .i64 lzl, .int .i64 ltl, .slice pol pnl pcl] 77 (0, 0)) ∧ bl ≠ r ∧ (∀ j, j < k → zf ≤ lpl.getD j 0 ∧ lpl.getD j 0 < zt)) (n0 := pnl) (⟨0, _, rfl, by omega, f.sub ⟨rfl, rfl, rfl, rfl, rfl, trivial⟩, HI, rbl, hblr, fun j hj => by omega⟩) ?_
           clear f A
           clear HI B1 rbl hblr
           rintro n A W64 ⟨k, r, hn, hk, f, HI, rbl, hblr, hpgs⟩
           have B1 := HI.B
           obtain ⟨s0, s1, s2, s3, -⟩ := sts_row (cs := [_, _, _, _]) rbl
           have Bl := Below.refl W64.heap.size W64
           have hLs : pnl ≤ k → LsOk x.hp (x.ls.getD i .zero).l := by
            intro h0
            rw [hXl.out]
            refine ⟨⟨by dsimp only; omega, by have e : x.hp.cpus = x.cpus := rfl; dsimp only; omega⟩, by dsimp only; omega, by unfold typeOk; dsimp only; omega, by have := hatl.len; dsimp only; omega, fun j hj => ?_⟩
            rw [zoneOf_hp]
            dsimp only
            rw [hzq, hzf, hzt]
            exact hpgs j (by have := hatl.len; dsimp only at hj; omega)
           refine wp_seq ?_
           refine wp_seq ?_
           refine sx_list ?_
           refine l_do f rfl rfl rfl (y_move rfl rfl) ?_; clear f A; intro A f
           refine l_do f rfl rfl rfl (y_field rfl rfl (fo rfl)) ?_; clear f A; intro A f
           refine l_do f rfl rfl rfl (y_load1 rfl rfl (ag rfl) (by assumption)) ?_; clear f A; intro A f
           refine l_do f rfl rfl rfl (y_len rfl rfl (sl rfl)) ?_; clear f A; intro A f
           refine l_if _ f rfl rfl rfl (y_lss rfl rfl rfl) ?_ ?_
           ·clear f A; intro c65 A f
            refine wpList_nil ?_
            refine x_tn ?_
            refine x_condT f rfl ?_
            refine wp_skip ?_
            refine x_tn ?_
            refine wp_seq ?_
            refine wp_block ?_
            refine wp_seq ?_
            have HB1 : ∀ wx, Bu2 r ab W64 wx → Below W2.heap.size W2 wx := fun wx h => HI.B.trans (h.below HI.hr HI.h HI.B.size)
            have h0 : StC (fun wx => Bu2 r ab W64 wx) _ _ := fun wx h => h.cell (St.now (s0.next Bl)) hblr hbla
            have h1 : StC (fun wx => Bu2 r ab W64 wx) _ _ := fun wx h => h.cell (St.now (s1.next Bl)) hblr hbla
            have h2 : StC (fun wx => Bu2 r ab W64 wx) _ _ := fun wx h => h.cell (St.now (s2.next Bl)) hblr hbla
            have h3 : StC (fun wx => Bu2 r ab W64 wx) _ _ := fun wx h => h.cell (St.now (s3.next Bl)) hblr hbla
            refine sx_held (fun wx => Bu2 r ab W64 wx) [20, 30] (by kernel_rfl) (by kernel_rfl) (blind_then (blind_in (blind_then (blind_then (blind_in (blind_in (blind_then (blind_then (blind_in (blind_then (blind_body))))))))))) (Bu2.start r ab rfl) ?_
            generalize hWd : ({ W64 with drawn := W64.drawn + 1 } : World) = W66
            have hS : Bu2 r ab W64 W66 := Bu2.start r ab hWd
            replace B1 := HB1 _ hS
            replace HI := HI.below (drawn_b hWd)
            clear hWd
            refine h_do f rfl rfl rfl rfl (y_field rfl rfl (fo rfl)) ?_; clear f A; intro A f
            refine h_do f rfl rfl rfl rfl (y_load1 rfl rfl (ag rfl) (by assumption)) ?_; clear f A; intro A f
            refine h_do f rfl rfl rfl rfl (y_move rfl rfl) ?_; clear f A; intro A f
            obtain ⟨gg, og, vg, hag, c0g, hXg⟩ := hatl.at_.at (k) (by have := hatl.len; omega)
            replace c0g := St.of c0g
            rw [show og + k = og + k * 1 by omega] at c0g
            have hPg : HMay x.hp → zf ≤ vg ∧ vg < zt := by
             intro h
             have e := (hL h).2.2.2.2 k (by omega)
             rw [hzq, hzf, hzt, hXg.out] at e
             exact e
            have hkl : k < (FL (x.ls.getD i .zero)).length := by rw [hXl.out]; show k < (lpl.map pgB).length; have := hatl.len; rw [List.length_map]; omega
            have hpk : (FL (x.ls.getD i .zero)).getD k .zero = ⟨vg, 0, 0⟩ := by
             rw [hXl.out]; show (lpl.map pgB).getD k .zero = _
             rw [getD_map lpl pgB k 0 _ (by have := hatl.len; omega), hXg.out]; rfl
            refine h_do f rfl rfl rfl rfl (y_index rfl rfl (by first | rfl | assumption) rfl (es rfl) (by omega)) ?_; clear f A; intro A f
            refine h_do f rfl rfl rfl rfl (y_load1 rfl rfl (ag rfl) (St.c c0g HB1)) ?_; clear f A; intro A f
            refine h_do f rfl rfl rfl rfl (y_field rfl rfl (fo rfl)) ?_; clear f A; intro A f
            refine h_do f rfl rfl rfl rfl (y_load1 rfl rfl (ag rfl) (St.c a0 HB1)) ?_; clear f A; intro A f
            refine h_do f rfl rfl rfl rfl (y_field rfl rfl (fo rfl)) ?_; clear f A; intro A f
            refine h_do f rfl rfl rfl rfl (y_load1 rfl rfl (ag rfl) (by assumption)) ?_; clear f A; intro A f
            refine h_do f rfl rfl rfl rfl (y_indexI rfl rfl (by assumption) rfl (es rfl) (by omega) (by omega)) ?_; clear f A; intro A f
            refine h_do f rfl rfl rfl rfl (y_field rfl rfl (fo rfl)) ?_; clear f A; intro A f
            refine h_do f rfl rfl rfl rfl (y_load1 rfl rfl (ag rfl) (St.c c0q HB1)) ?_; clear f A; intro A f
            refine h_do f rfl rfl rfl rfl (y_field rfl rfl (fo rfl)) ?_; clear f A; intro A f
            refine h_do f rfl rfl rfl rfl (y_load1 rfl rfl (ag rfl) (St.c a0 HB1)) ?_; clear f A; intro A f
            refine h_do f rfl rfl rfl rfl (y_field rfl rfl (fo rfl)) ?_; clear f A; intro A f
            refine h_do f rfl rfl rfl rfl (y_load1 rfl rfl (ag rfl) (by assumption)) ?_; clear f A; intro A f
            refine h_do f rfl rfl rfl rfl (y_indexI rfl rfl (by assumption) rfl (es rfl) (by omega) (by omega)) ?_; clear f A; intro A f
            refine h_do f rfl rfl rfl rfl (y_field rfl rfl (fo rfl)) ?_; clear f A; intro A f
            refine h_do f rfl rfl rfl rfl (y_load1 rfl rfl (ag rfl) (St.c c1q HB1)) ?_; clear f A; intro A f
            refine h_do f rfl rfl rfl rfl (y_sub rfl rfl rfl rfl (by omega)) ?_; clear f A; intro A f
            refine h_callif _ f rfl rfl rfl rfl (IsCall.mk' (cap := []) rfl rfl rfl) (pl rfl) (in_c _ _ _ _) (fun _ hb => hS.trans (Bu2.of_below hb)) ?_ ?_
            ·clear f A; intro c69 W68 hb67 A f
             replace B1 := Below.next B1 hb67; replace HI := HI.below hb67; replace hS := hS.grow hb67
             refine h_do f rfl rfl rfl rfl (y_not rfl rfl) ?_; clear f A; intro A f
             refine h_do f rfl rfl rfl rfl (y_move rfl rfl) ?_; clear f A; intro A f
             refine h_do f rfl rfl rfl rfl (y_move rfl rfl) ?_; clear f A; intro A f
             refine h_do f rfl rfl rfl rfl (y_field rfl rfl (fo rfl)) ?_; clear f A; intro A f
             refine h_do f rfl rfl rfl rfl (y_load1 rfl rfl (ag rfl) (by assumption)) ?_; clear f A; intro A f
             refine h_do f rfl rfl rfl rfl (y_move rfl rfl) ?_; clear f A; intro A f
             refine h_do f rfl rfl rfl rfl (y_index rfl rfl (by first | rfl | assumption) rfl (es rfl) (by omega)) ?_; clear f A; intro A f
             refine h_do f rfl rfl rfl rfl (y_load1 rfl rfl (ag rfl) (St.c c0g HB1)) ?_; clear f A; intro A f
             have hip : InP ⟨vg, 0, 0⟩ := ⟨(by decide : (0 : Int) ≤ 0 ∧ (0 : Int) ≤ 4), by dsimp only; omega, by dsimp only [pw]; simp only [Int.toNat_zero, Nat.pow_zero]; omega⟩
             refine h_do f rfl rfl rfl rfl (y_build #[.int .i64 vg, .int .i64 0, .int .i64 0] rfl rfl (by kernel_rfl)) ?_; clear f A; intro A f
             refine h_call f rfl rfl rfl rfl (IsCall.mk' (cap := [_]) rfl rfl rfl) (pl rfl) (hm_add HI ⟨_, _, _⟩ hip) ?_
             clear f A
             rintro e W70 ⟨r71, ⟨rfl, HI2, hr2, hu2⟩ | ⟨rfl, hov, hb2⟩⟩
             ·have B1 := HI2.B
              have hS2 := hS.trans hu2
              refine ⟨_, rfl, hS2, ?_⟩; intro A f
              refine h_do f rfl rfl rfl rfl (y_not rfl rfl) ?_; clear f A; intro A f
              refine h_do f rfl rfl rfl rfl (y_pick rfl rfl rfl) ?_; clear f A; intro A f
              refine h_nil ?_
              refine x_tn ?_
              refine x_condF f rfl ?_
              refine wp_skip ?_
              refine x_bn ?_
              refine x_tn ?_
              refine sx_list ?_
              refine l_do f rfl rfl rfl (y_move rfl rfl) ?_; clear f A; intro A f
              refine l_do f rfl rfl rfl (y_add rfl rfl rfl rfl (by omega)) ?_; clear f A; intro A f
              refine l_do f rfl rfl rfl (y_assign rfl rfl) ?_; clear f A; intro A f
              refine wpList_nil ?_
              refine x_tn ?_
              exact ⟨pnl - (k + 1), by omega, k + 1, _, rfl, by omega, f.sub ⟨rfl, rfl, rfl, rfl, rfl, trivial⟩, by rw [preL_succ FL .zero x.ls i k hkl, hpk, ← List.append_assoc]; exact HI2, hS2.row rbl hblr hbla, by have := (Array.getElem?_eq_some_iff.1 rbl).1; have := hS.size; rcases hr2 with e | e <;> omega, fun j hj => by by_cases e : j = k; rw [e, hXg.out]; omega; exact hpgs j (by omega)⟩
             replace B1 := Below.next B1 hb2
             have hnz : ¬ Apt [] (placed x.hp) := fun h => by
              rw [placed_x] at h
              obtain ⟨r9, h9⟩ := preL_rest FL .zero x.ls i (k + 1) (by have := hx1.lists.len; omega)
              rw [h9, preL_succ FL .zero x.ls i k hkl, hpk] at h
              exact hov (r9 ++ x.live) (by simpa [List.append_assoc] using h)
             have hS2 := hS.trans (Bu2.of_below hb2)
             refine ⟨_, rfl, hS2, ?_⟩; intro A f
             refine h_do f rfl rfl rfl rfl (y_not rfl rfl) ?_; clear f A; intro A f
             refine h_do f rfl rfl rfl rfl (y_pick rfl rfl rfl) ?_; clear f A; intro A f
             refine h_nil ?_
             refine x_tn ?_
             refine x_condT f rfl ?_
             refine wp_seq ?_
             refine sx_list ?_
             refine l_do f rfl rfl rfl (y_assign rfl rfl) ?_; clear f A; intro A f
             refine wpList_nil ?_
             refine x_tn ?_
             refine wp_ret ?_
             refine x_br ?_
             refine x_tr ?_
             refine x_tr ?_
             refine x_br ?_
             refine x_br ?_
             refine x_tr ?_
             refine x_tr ?_
             refine x_br ?_
             refine x_tr ?_
             refine x_ret1 f rfl rfl ?_
             exact ⟨HNo.out _ rfl (fun h => hnz h.apart), Below.next hw1 B1⟩
            clear f A; intro c69 W68 hb67 A f
            replace B1 := Below.next B1 hb67; replace HI := HI.below hb67; replace hS := hS.grow hb67
            refine h_do f rfl rfl rfl rfl (y_not rfl rfl) ?_; clear f A; intro A f
            refine h_do f rfl rfl rfl rfl (y_move rfl rfl) ?_; clear f A; intro A f
            refine h_no f rfl rfl rfl ?_; clear f A; intro A f
            refine h_no f rfl rfl rfl ?_; clear f A; intro A f
            refine h_no f rfl rfl rfl ?_; clear f A; intro A f
            refine h_no f rfl rfl rfl ?_; clear f A; intro A f
            refine h_no f rfl rfl rfl ?_; clear f A; intro A f
            refine h_no f rfl rfl rfl ?_; clear f A; intro A f
            refine h_no f rfl rfl rfl ?_; clear f A; intro A f
            refine h_no f rfl rfl rfl ?_; clear f A; intro A f
            refine h_no f rfl rfl rfl ?_; clear f A; intro A f
            refine h_do f rfl rfl rfl rfl (y_pick rfl rfl rfl) ?_; clear f A; intro A f
            refine h_nil ?_
            refine x_tn ?_
            refine x_condT f rfl ?_
            refine wp_seq ?_
            refine sx_list ?_
            refine l_do f rfl rfl rfl (y_assign rfl rfl) ?_; clear f A; intro A f
            refine wpList_nil ?_
            refine x_tn ?_
            refine wp_ret ?_
            refine x_br ?_
            refine x_tr ?_
            refine x_tr ?_
            refine x_br ?_
            refine x_br ?_
            refine x_tr ?_
            refine x_tr ?_
            refine x_br ?_
            refine x_tr ?_
            refine x_ret1 f rfl rfl ?_
            exact ⟨HNo.out _ rfl (fun h => by have := hPg h; omega), Below.next hw1 B1⟩
           clear f A; intro c65 A f
           refine wpList_nil ?_
           refine x_tn ?_
           refine x_condF f rfl ?_
           refine wp_exit ?_
           refine x_te ?_
           refine x_te ?_
           refine x_bh ?_
           refine x_bn ?_
           refine x_tn ?_
           refine sx_list ?_
           refine l_do f rfl rfl rfl (y_move rfl rfl) ?_; clear f A; intro A f
           refine l_do f rfl rfl rfl (y_add rfl rfl rfl rfl (by omega)) ?_; clear f A; intro A f
           refine l_do f rfl rfl rfl (y_assign rfl rfl) ?_; clear f A; intro A f
           refine wpList_nil ?_
           refine x_tn ?_
           exact ⟨x.ln - (i + 1), by omega, i + 1, r, rfl, by omega, f.sub ⟨rfl, rfl, rfl, trivial⟩, by have := preL_full FL .zero x.ls i k (by have := hx1.lists.len; omega) (by rw [hXl.out]; show (lpl.map pgB).length ≤ k; have := hatl.len; rw [List.length_map]; omega); rwa [this] at HI, HL.succ (hLs (by omega)) hLo⟩
          clear f A; intro c46 A f
          refine q_do f rfl rfl rfl (y_not rfl rfl) ?_; clear f A; intro A f
          refine q_do f rfl rfl rfl (y_pick rfl rfl rfl) ?_; clear f A; intro A f
          refine q_do f rfl rfl rfl (y_move rfl rfl) ?_; clear f A; intro A f
          refine q_no f rfl rfl rfl ?_; clear f A; intro A f
          refine q_no f rfl rfl rfl ?_; clear f A; intro A f
          refine q_no f rfl rfl rfl ?_; clear f A; intro A f
          refine q_no f rfl rfl rfl ?_; clear f A; intro A f
          refine q_no f rfl rfl rfl ?_; clear f A; intro A f
          refine q_no f rfl rfl rfl ?_; clear f A; intro A f
          refine q_no f rfl rfl rfl ?_; clear f A; intro A f
          refine q_no f rfl rfl rfl ?_; clear f A; intro A f
          refine q_no f rfl rfl rfl ?_; clear f A; intro A f
          refine q_no f rfl rfl rfl ?_; clear f A; intro A f
          refine q_no f rfl rfl rfl ?_; clear f A; intro A f
          refine q_no f rfl rfl rfl ?_; clear f A; intro A f
          refine q_no f rfl rfl rfl ?_; clear f A; intro A f
          refine q_do f rfl rfl rfl (y_pick rfl rfl rfl) ?_; clear f A; intro A f
          refine wpQuiet_nil ?_; intro W74 hb73; replace B1 := Below.next B1 hb73; replace HI := HI.below hb73; replace Bl := Below.next Bl hb73
          refine x_tn ?_
          refine x_condT f rfl ?_
          refine wp_seq ?_
          refine sx_list ?_
          refine l_do f rfl rfl rfl (y_assign rfl rfl) ?_; clear f A; intro A f
          refine wpList_nil ?_
          refine x_tn ?_
          refine wp_ret ?_
          refine x_tr ?_
          refine x_br ?_
          refine x_tr ?_
          refine x_tr ?_
          refine x_br ?_
          refine x_tr ?_
          refine x_ret1 f rfl rfl ?_
          exact ⟨HNo.out _ rfl (fun h => by have := hL h; omega), Below.next hw1 B1⟩
         clear f A; intro c45 A f
         refine q_do f rfl rfl rfl (y_not rfl rfl) ?_; clear f A; intro A f
         refine q_do f rfl rfl rfl (y_pick rfl rfl rfl) ?_; clear f A; intro A f
         refine q_do f rfl rfl rfl (y_move rfl rfl) ?_; clear f A; intro A f
         refine q_no f rfl rfl rfl ?_; clear f A; intro A f
         refine q_no f rfl rfl rfl ?_; clear f A; intro A f
         refine q_no f rfl rfl rfl ?_; clear f A; intro A f
         refine q_no f rfl rfl rfl ?_; clear f A; intro A f
         refine q_no f rfl rfl rfl ?_; clear f A; intro A f
         refine q_do f rfl rfl rfl (y_pick rfl rfl rfl) ?_; clear f A; intro A f
         refine q_do f rfl rfl rfl (y_move rfl rfl) ?_; clear f A; intro A f
         refine q_no f rfl rfl rfl ?_; clear f A; intro A f
         refine q_no f rfl rfl rfl ?_; clear f A; intro A f
         refine q_no f rfl rfl rfl ?_; clear f A; intro A f
         refine q_no f rfl rfl rfl ?_; clear f A; intro A f
         refine q_no f rfl rfl rfl ?_; clear f A; intro A f
         refine q_no f rfl rfl rfl ?_; clear f A; intro A f
         refine q_no f rfl rfl rfl ?_; clear f A; intro A f
         refine q_no f rfl rfl rfl ?_; clear f A; intro A f
         refine q_no f rfl rfl rfl ?_; clear f A; intro A f
         refine q_no f rfl rfl rfl ?_; clear f A; intro A f
         refine q_no f rfl rfl rfl ?_; clear f A; intro A f
         refine q_no f rfl rfl rfl ?_; clear f A; intro A f
         refine q_no f rfl rfl rfl ?_; clear f A; intro A f
         refine q_do f rfl rfl rfl (y_pick rfl rfl rfl) ?_; clear f A; intro A f
         refine wpQuiet_nil ?_; intro W76 hb75; replace B1 := Below.next B1 hb75; replace HI := HI.below hb75; replace Bl := Below.next Bl hb75
         refine x_tn ?_
         refine x_condT f rfl ?_
         refine wp_seq ?_
         refine sx_list ?_
         refine l_do f rfl rfl rfl (y_assign rfl rfl) ?_; clear f A; intro A f
         refine wpList_nil ?_
         refine x_tn ?_
         refine wp_ret ?_
         refine x_tr ?_
         refine x_br ?_
         refine x_tr ?_
         refine x_tr ?_
         refine x_br ?_
         refine x_tr ?_
         refine x_ret1 f rfl rfl ?_
         exact ⟨HNo.out _ rfl (fun h => by have := hL h; omega), Below.next hw1 B1⟩
        clear f A; intro c44 A f
        refine q_do f rfl rfl rfl (y_not rfl rfl) ?_; clear f A; intro A f
        refine q_do f rfl rfl rfl (y_pick rfl rfl rfl) ?_; clear f A; intro A f
        refine q_do f rfl rfl rfl (y_move rfl rfl) ?_; clear f A; intro A f
        refine q_no f rfl rfl rfl ?_; clear f A; intro A f
        refine q_no f rfl rfl rfl ?_; clear f A; intro A f
        refine q_no f rfl rfl rfl ?_; clear f A; intro A f
        refine q_no f rfl rfl rfl ?_; clear f A; intro A f
        refine q_do f rfl rfl rfl (y_pick rfl rfl rfl) ?_; clear f A; intro A f
        refine q_do f rfl rfl rfl (y_move rfl rfl) ?_; clear f A; intro A f
        refine q_no f rfl rfl rfl ?_; clear f A; intro A f
        refine q_no f rfl rfl rfl ?_; clear f A; intro A f
        refine q_no f rfl rfl rfl ?_; clear f A; intro A f
        refine q_no f rfl rfl rfl ?_; clear f A; intro A f
        refine q_no f rfl rfl rfl ?_; clear f A; intro A f
        refine q_do f rfl rfl rfl (y_pick rfl rfl rfl) ?_; clear f A; intro A f
        refine q_do f rfl rfl rfl (y_move rfl rfl) ?_; clear f A; intro A f
        refine q_no f rfl rfl rfl ?_; clear f A; intro A f
        refine q_no f rfl rfl rfl ?_; clear f A; intro A f
        refine q_no f rfl rfl rfl ?_; clear f A; intro A f
        refine q_no f rfl rfl rfl ?_; clear f A; intro A f
        refine q_no f rfl rfl rfl ?_; clear f A; intro A f
        refine q_no f rfl rfl rfl ?_; clear f A; intro A f
        refine q_no f rfl rfl rfl ?_; clear f A; intro A f
        refine q_no f rfl rfl rfl ?_; clear f A; intro A f
        refine q_no f rfl rfl rfl ?_; clear f A; intro A f
        refine q_no f rfl rfl rfl ?_; clear f A; intro A f
        refine q_no f rfl rfl rfl ?_; clear f A; intro A f
        refine q_no f rfl rfl rfl ?_; clear f A; intro A f
        refine q_no f rfl rfl rfl ?_; clear f A; intro A f
        refine q_do f rfl rfl rfl (y_pick rfl rfl rfl) ?_; clear f A; intro A f
        refine wpQuiet_nil ?_; intro W78 hb77; replace B1 := Below.next B1 hb77; replace HI := HI.below hb77; replace Bl := Below.next Bl hb77
        refine x_tn ?_
        refine x_condT f rfl ?_
        refine wp_seq ?_
        refine sx_list ?_
        refine l_do f rfl rfl rfl (y_assign rfl rfl) ?_; clear f A; intro A f
        refine wpList_nil ?_
        refine x_tn ?_
        refine wp_ret ?_
        refine x_tr ?_
        refine x_br ?_
        refine x_tr ?_
        refine x_tr ?_
        refine x_br ?_
        refine x_tr ?_
        refine x_ret1 f rfl rfl ?_
        exact ⟨HNo.out _ rfl (fun h => by have := hL h; omega), Below.next hw1 B1⟩
       clear f A; intro c43 A f
       refine q_do f rfl rfl rfl (y_not rfl rfl) ?_; clear f A; intro A f
       refine q_do f rfl rfl rfl (y_move rfl rfl) ?_; clear f A; intro A f
       refine q_no f rfl rfl rfl ?_; clear f A; intro A f
       refine q_no f rfl rfl rfl ?_; clear f A; intro A f
       refine q_no f rfl rfl rfl ?_; clear f A; intro A f
       refine q_no f rfl rfl rfl ?_; clear f A; intro A f
       refine q_do f rfl rfl rfl (y_pick rfl rfl rfl) ?_; clear f A; intro A f
       refine q_do f rfl rfl rfl (y_move rfl rfl) ?_; clear f A; intro A f
       refine q_no f rfl rfl rfl ?_; clear f A; intro A f
       refine q_no f rfl rfl rfl ?_; clear f A; intro A f
       refine q_no f rfl rfl rfl ?_; clear f A; intro A f
       refine q_no f rfl rfl rfl ?_; clear f A; intro A f
       refine q_do f rfl rfl rfl (y_pick rfl rfl rfl) ?_; clear f A; intro A f
       refine q_do f rfl rfl rfl (y_move rfl rfl) ?_; clear f A; intro A f
       refine q_no f rfl rfl rfl ?_; clear f A; intro A f
       refine q_no f rfl rfl rfl ?_; clear f A; intro A f
       refine q_no f rfl rfl rfl ?_; clear f A; intro A f
       refine q_no f rfl rfl rfl ?_; clear f A; intro A f
       refine q_no f rfl rfl rfl ?_; clear f A; intro A f
       refine q_do f rfl rfl rfl (y_pick rfl rfl rfl) ?_; clear f A; intro A f
       refine q_do f rfl rfl rfl (y_move rfl rfl) ?_; clear f A; intro A f
       refine q_no f rfl rfl rfl ?_; clear f A; intro A f
       refine q_no f rfl rfl rfl ?_; clear f A; intro A f
       refine q_no f rfl rfl rfl ?_; clear f A; intro A f
       refine q_no f rfl rfl rfl ?_; clear f A; intro A f
       refine q_no f rfl rfl rfl ?_; clear f A; intro A f
       refine q_no f rfl rfl rfl ?_; clear f A; intro A f
       refine q_no f rfl rfl rfl ?_; clear f A; intro A f
       refine q_no f rfl rfl rfl ?_; clear f A; intro A f
       refine q_no f rfl rfl rfl ?_; clear f A; intro A f
       refine q_no f rfl rfl rfl ?_; clear f A; intro A f
       refine q_no f rfl rfl rfl ?_; clear f A; intro A f
       refine q_no f rfl rfl rfl ?_; clear f A; intro A f
       refine q_no f rfl rfl rfl ?_; clear f A; intro A f
       refine q_do f rfl rfl rfl (y_pick rfl rfl rfl) ?_; clear f A; intro A f
       refine wpQuiet_nil ?_; intro W80 hb79; replace B1 := Below.next B1 hb79; replace HI := HI.below hb79; replace Bl := Below.next Bl hb79
       refine x_tn ?_
       refine x_condT f rfl ?_
       refine wp_seq ?_
       refine sx_list ?_
       refine l_do f rfl rfl rfl (y_assign rfl rfl) ?_; clear f A; intro A f
       refine wpList_nil ?_
       refine x_tn ?_
       refine wp_ret ?_
       refine x_tr ?_
       refine x_br ?_
       refine x_tr ?_
       refine x_tr ?_
       refine x_br ?_
       refine x_tr ?_
       refine x_ret1 f rfl rfl ?_
       exact ⟨HNo.out _ rfl (fun h => by have := hL h; omega), Below.next hw1 B1⟩
      clear f A; intro c39 A f
      refine wpList_nil ?_
      refine x_tn ?_
      refine x_condF f rfl ?_
      refine wp_exit ?_
      refine x_te ?_
      refine x_te ?_
      refine x_bh ?_
      refine x_tn ?_
      refine wp_seq ?_
      refine wp_seq ?_
      refine sx_list ?_
      refine l_do f rfl rfl rfl (y_assign rfl rfl) ?_; clear f A; intro A f
      refine wpList_nil ?_
      refine x_tn ?_
      refine wp_block ?_
      have HI0 : HmI W2 W38 ab r (x.zs.flatMap FZ ++ (x.ls.flatMap FL ++ x.live.take 0)) := by
       have e : preL FL .zero x.ls i 0 = x.ls.flatMap FL ++ x.live.take 0 := by rw [preL_all FL .zero x.ls i (by have := hx1.lists.len; omega)]; simp
       rw [← e]; exact HI
      clear HI
      have hLss : LssOk x.hp := HL.all (by have := hx1.lists.len; omega)
      clear HL
      refine x_loop (fun n A W => ∃ i r : Nat, n = x.vn - i ∧ i ≤ x.vn ∧ Fr A 267 [(1, .pointer (some ⟨b1, 0, none⟩)), (4, .func (.func 38) #[] #[.pointer (some ⟨ab, 0, none⟩)]), (10, .int .i64 (i : Nat))] ∧ HmI W2 W ab r (x.zs.flatMap FZ ++ (x.ls.flatMap FL ++ x.live.take i)) ∧ LvI x.live i) (n0 := x.vn) (⟨0, _, rfl, by omega, f.sub ⟨rfl, rfl, rfl, trivial⟩, HI0, LvI.nil _⟩) ?_
      clear f A
      clear HI0 B1
      rintro n A W81 ⟨i, r, hn, hi, f, HI, HV⟩
      have B1 := HI.B
      have vreach := hx1.live.reach
      refine wp_seq ?_
      refine wp_seq ?_
      refine sx_list ?_
      refine l_do f rfl rfl rfl (y_move rfl rfl) ?_; clear f A; intro A f
      refine l_do f rfl rfl rfl (y_field rfl rfl (fo rfl)) ?_; clear f A; intro A f
      refine l_do f rfl rfl rfl (y_load1 rfl rfl (ag rfl) (St.q a4 B1)) ?_; clear f A; intro A f
      refine l_do f rfl rfl rfl (y_len rfl rfl (sl rfl)) ?_; clear f A; intro A f
      refine l_if _ f rfl rfl rfl (y_lss rfl rfl rfl) ?_ ?_
      ·clear f A; intro c82 A f
       refine wpList_nil ?_
       refine x_tn ?_
       refine x_condT f rfl ?_
       refine wp_skip ?_
       refine x_tn ?_
       refine wp_seq ?_
       refine wp_block ?_
       refine wp_seq ?_
       refine sx_list ?_
       refine l_do f rfl rfl rfl (y_field rfl rfl (fo rfl)) ?_; clear f A; intro A f
       refine l_do f rfl rfl rfl (y_load1 rfl rfl (ag rfl) (St.q a4 B1)) ?_; clear f A; intro A f
       refine l_do f rfl rfl rfl (y_move rfl rfl) ?_; clear f A; intro A f
       obtain ⟨gv, ov, bav, bov, btv, hav, c0v, c1v, c2v, hXv⟩ := hx1.live.at_.at (i) (by have := hx1.live.len; omega)
       replace c0v := St.of c0v; replace c1v := St.of c1v; replace c2v := St.of c2v
       have hV : HMay x.hp → (0 ≤ bov ∧ bov ≤ 4) ∧ (0 ≤ bav ∧ bav < 256) ∧ bav % pw bov = 0 ∧ (0 ≤ btv ∧ btv ≤ 2) := by
        intro h
        have e := h.lv.ok i (by have := hx1.live.len; show i < x.live.length; omega)
        have e2 : x.hp.live.getD i .zero = ⟨bav, bov, btv⟩ := hXv.out
        rw [e2] at e
        exact ⟨e.o, e.a, e.m, e.t⟩
       refine l_do f rfl rfl rfl (y_index rfl rfl (by first | rfl | assumption) rfl (es rfl) (by omega)) ?_; clear f A; intro A f
       refine l_do f rfl rfl rfl (y_loadN (vs := [_, _, _]) rfl rfl (ag rfl) rfl ⟨(St.q c0v B1), (St.q c1v B1), (St.q c2v B1), trivial⟩) ?_; clear f A; intro A f
       have hlr := HI.hl
       have hla := HI.lab
       refine l_as (z := .agg #[.int .i64 0, .int .i64 0, .int .i64 0]) f rfl rfl rfl rfl (by kernel_rfl) rfl rfl (fun _ => rfl) (fun _ => rfl) rfl (by intro u hu; simp [Value.cells] at hu; rcases hu with rfl | rfl | rfl <;> rfl) ?_; clear f A; intro b83 W84 eb83 hb85 rb83 A f
       have hpb83 := hb85; replace B1 := Below.next B1 hb85; replace HI := HI.below hb85
       have rbl := rb83
       have hblr : b83 ≠ r := by have := hlr; omega
       have hbla : b83 ≠ ab := by have := hla; omega
       obtain ⟨s0, s1, s2, -⟩ := sts_row (cs := [_, _, _]) rb83
       obtain ⟨bl, hbl⟩ : ∃ bl, b83 = bl := ⟨_, rfl⟩
       rw [hbl] at f rbl hblr hbla s0 s1 s2
       refine wpList_nil ?_
       refine x_tn ?_
       refine wp_seq ?_
       have HB1 : ∀ wx, Bu2 r ab W84 wx → Below W2.heap.size W2 wx := fun wx h => HI.B.trans (h.below HI.hr HI.h HI.B.size)
       have h0 : StC (fun wx => Bu2 r ab W84 wx) _ _ := fun wx h => h.cell (St.now s0) hblr hbla
       have h1 : StC (fun wx => Bu2 r ab W84 wx) _ _ := fun wx h => h.cell (St.now s1) hblr hbla
       have h2 : StC (fun wx => Bu2 r ab W84 wx) _ _ := fun wx h => h.cell (St.now s2) hblr hbla
       refine sx_held (fun wx => Bu2 r ab W84 wx) [2, 7, 15, 22, 44] (by kernel_rfl) (by kernel_rfl) (blind_then (blind_in (blind_then (blind_then (blind_in (blind_then (blind_body))))))) (Bu2.start r ab rfl) ?_
       generalize hWd : ({ W84 with drawn := W84.drawn + 1 } : World) = W86
       have hS : Bu2 r ab W84 W86 := Bu2.start r ab hWd
       replace B1 := HB1 _ hS
       replace HI := HI.below (drawn_b hWd)
       clear hWd
       refine h_do f rfl rfl rfl rfl (y_field rfl rfl (fo rfl)) ?_; clear f A; intro A f
       refine h_do f rfl rfl rfl rfl (y_load1 rfl rfl (ag rfl) (by assumption)) ?_; clear f A; intro A f
       refine h_callif _ f rfl rfl rfl rfl (IsCall.mk' (cap := []) rfl rfl rfl) (pl rfl) (in_c _ _ _ _) (fun _ hb => hS.trans (Bu2.of_below hb)) ?_ ?_
       ·clear f A; intro c89 W88 hb87 A f
        replace B1 := Below.next B1 hb87; replace HI := HI.below hb87; replace hS := hS.grow hb87
        refine h_do f rfl rfl rfl rfl (y_not rfl rfl) ?_; clear f A; intro A f
        refine h_do f rfl rfl rfl rfl (y_move rfl rfl) ?_; clear f A; intro A f
        refine h_do f rfl rfl rfl rfl (y_field rfl rfl (fo rfl)) ?_; clear f A; intro A f
        refine h_do f rfl rfl rfl rfl (y_load1 rfl rfl (ag rfl) (by assumption)) ?_; clear f A; intro A f
        refine h_callif _ f rfl rfl rfl rfl (IsCall.mk' (cap := []) rfl rfl rfl) (pl rfl) (in_c _ _ _ _) (fun _ hb => hS.trans (Bu2.of_below hb)) ?_ ?_
        ·clear f A; intro c92 W91 hb90 A f
         replace B1 := Below.next B1 hb90; replace HI := HI.below hb90; replace hS := hS.grow hb90
         refine h_do f rfl rfl rfl rfl (y_not rfl rfl) ?_; clear f A; intro A f
         refine h_do f rfl rfl rfl rfl (y_pick rfl rfl rfl) ?_; clear f A; intro A f
         refine h_do f rfl rfl rfl rfl (y_move rfl rfl) ?_; clear f A; intro A f
         refine h_do f rfl rfl rfl rfl (y_field rfl rfl (fo rfl)) ?_; clear f A; intro A f
         refine h_do f rfl rfl rfl rfl (y_load1 rfl rfl (ag rfl) (by assumption)) ?_; clear f A; intro A f
         refine h_do f rfl rfl rfl rfl (y_field rfl rfl (fo rfl)) ?_; clear f A; intro A f
         refine h_do f rfl rfl rfl rfl (y_load1 rfl rfl (ag rfl) (by assumption)) ?_; clear f A; intro A f
         have hpp := pw_pos bov
         refine h_callv f rfl rfl rfl rfl (IsCall.mk' (cap := []) rfl rfl rfl) (pl rfl) (power_c _ (by omega) (by omega) _) (fun _ hb => hS.trans (Bu2.of_below hb)) ?_; clear f A; intro W94 hb93 A f; replace B1 := Below.next B1 hb93; replace HI := HI.below hb93; replace hS := hS.grow hb93
         refine h_do f rfl rfl rfl rfl (y_rem (c := bav % pw bov) rfl rfl rfl (by omega) (Int.tmod_eq_emod_of_nonneg (by omega))) ?_; clear f A; intro A f
         refine h_if _ f rfl rfl rfl rfl (y_neq rfl rfl rfl) ?_ ?_
         ·clear f A; intro c95 A f
          refine h_do f rfl rfl rfl rfl (y_pick rfl rfl rfl) ?_; clear f A; intro A f
          refine h_do f rfl rfl rfl rfl (y_move rfl rfl) ?_; clear f A; intro A f
          refine h_no f rfl rfl rfl ?_; clear f A; intro A f
          refine h_no f rfl rfl rfl ?_; clear f A; intro A f
          refine h_no f rfl rfl rfl ?_; clear f A; intro A f
          refine h_no f rfl rfl rfl ?_; clear f A; intro A f
          refine h_do f rfl rfl rfl rfl (y_pick rfl rfl rfl) ?_; clear f A; intro A f
          refine h_do f rfl rfl rfl rfl (y_move rfl rfl) ?_; clear f A; intro A f
          refine h_no f rfl rfl rfl ?_; clear f A; intro A f
          refine h_no f rfl rfl rfl ?_; clear f A; intro A f
          refine h_no f rfl rfl rfl ?_; clear f A; intro A f
          refine h_no f rfl rfl rfl ?_; clear f A; intro A f
          refine h_no f rfl rfl rfl ?_; clear f A; intro A f
          refine h_no f rfl rfl rfl ?_; clear f A; intro A f
          refine h_no f rfl rfl rfl ?_; clear f A; intro A f
          refine h_no f rfl rfl rfl ?_; clear f A; intro A f
          refine h_no f rfl rfl rfl ?_; clear f A; intro A f
          refine h_no f rfl rfl rfl ?_; clear f A; intro A f
          refine h_no f rfl rfl rfl ?_; clear f A; intro A f
          refine h_no f rfl rfl rfl ?_; clear f A; intro A f
          refine h_no f rfl rfl rfl ?_; clear f A; intro A f
          refine h_no f rfl rfl rfl ?_; clear f A; intro A f
          refine h_do f rfl rfl rfl rfl (y_pick rfl rfl rfl) ?_; clear f A; intro A f
          refine h_do f rfl rfl rfl rfl (y_move rfl rfl) ?_; clear f A; intro A f
          refine h_no f rfl rfl rfl ?_; clear f A; intro A f
          refine h_no f rfl rfl rfl ?_; clear f A; intro A f
          refine h_no f rfl rfl rfl ?_; clear f A; intro A f
          refine h_no f rfl rfl rfl ?_; clear f A; intro A f
          refine h_do f rfl rfl rfl rfl (y_pick rfl rfl rfl) ?_; clear f A; intro A f
          refine h_nil ?_
          refine x_tn ?_
          refine x_condT f rfl ?_
          refine wp_seq ?_
          refine sx_list ?_
          refine l_do f rfl rfl rfl (y_assign rfl rfl) ?_; clear f A; intro A f
          refine wpList_nil ?_
          refine x_tn ?_
          refine wp_ret ?_
          refine x_br ?_
          refine x_tr ?_
          refine x_tr ?_
          refine x_br ?_
          refine x_tr ?_
          refine x_ret1 f rfl rfl ?_
          exact ⟨HNo.out _ rfl (fun h => by have := hV h; omega), Below.next hw1 B1⟩
         clear f A; intro c95 A f
         refine h_do f rfl rfl rfl rfl (y_pick rfl rfl rfl) ?_; clear f A; intro A f
         refine h_do f rfl rfl rfl rfl (y_move rfl rfl) ?_; clear f A; intro A f
         refine h_do f rfl rfl rfl rfl (y_field rfl rfl (fo rfl)) ?_; clear f A; intro A f
         refine h_do f rfl rfl rfl rfl (y_load1 rfl rfl (ag rfl) (by assumption)) ?_; clear f A; intro A f
         refine h_callif _ f rfl rfl rfl rfl (IsCall.mk' (cap := []) rfl rfl rfl) (pl rfl) (in_c _ _ _ _) (fun _ hb => hS.trans (Bu2.of_below hb)) ?_ ?_
         ·clear f A; intro c98 W97 hb96 A f
          replace B1 := Below.next B1 hb96; replace HI := HI.below hb96; replace hS := hS.grow hb96
          refine h_do f rfl rfl rfl rfl (y_not rfl rfl) ?_; clear f A; intro A f
          refine h_do f rfl rfl rfl rfl (y_pick rfl rfl rfl) ?_; clear f A; intro A f
          refine h_do f rfl rfl rfl rfl (y_move rfl rfl) ?_; clear f A; intro A f
          refine h_do f rfl rfl rfl rfl (y_move rfl rfl) ?_; clear f A; intro A f
          refine h_if _ f rfl rfl rfl rfl (y_gtr rfl rfl rfl) ?_ ?_
          ·clear f A; intro c99 A f
           refine h_do f rfl rfl rfl rfl (y_move rfl rfl) ?_; clear f A; intro A f
           refine h_do f rfl rfl rfl rfl (y_field rfl rfl (fo rfl)) ?_; clear f A; intro A f
           refine h_do f rfl rfl rfl rfl (y_load1 rfl rfl (ag rfl) (St.c a4 HB1)) ?_; clear f A; intro A f
           refine h_do f rfl rfl rfl rfl (y_move rfl rfl) ?_; clear f A; intro A f
           refine h_do f rfl rfl rfl rfl (y_sub (c := ((i - 1 : Nat) : Int)) rfl rfl rfl (by omega) (by omega)) ?_; clear f A; intro A f
           obtain ⟨gu, ou, bau, bou, btu, hau, c0u, c1u, c2u, hXu⟩ := hx1.live.at_.at (i - 1) (by have := hx1.live.len; omega)
           replace c0u := St.of c0u; replace c1u := St.of c1u; replace c2u := St.of c2u
           rw [hav] at hau; simp only [Option.some.injEq, Addr.mk.injEq, and_true] at hau; obtain ⟨rfl, rfl⟩ := hau
           have hO : HMay x.hp → bau < bav := by
            intro h
            have e := h.lv.ord i (by omega) (by have := hx1.live.len; show i < x.live.length; omega)
            have e2 : x.hp.live.getD i .zero = ⟨bav, bov, btv⟩ := hXv.out
            have e3 : x.hp.live.getD (i - 1) .zero = ⟨bau, bou, btu⟩ := hXu.out
            rw [e2, e3] at e
            exact e
           refine h_do f rfl rfl rfl rfl (y_index rfl rfl (by first | rfl | assumption) rfl (es rfl) (by omega)) ?_; clear f A; intro A f
           refine h_do f rfl rfl rfl rfl (y_field rfl rfl (fo rfl)) ?_; clear f A; intro A f
           refine h_do f rfl rfl rfl rfl (y_load1 rfl rfl (ag rfl) (St.c c0u HB1)) ?_; clear f A; intro A f
           refine h_do f rfl rfl rfl rfl (y_field rfl rfl (fo rfl)) ?_; clear f A; intro A f
           refine h_do f rfl rfl rfl rfl (y_load1 rfl rfl (ag rfl) (by assumption)) ?_; clear f A; intro A f
           refine h_if _ f rfl rfl rfl rfl (y_geq rfl rfl rfl) ?_ ?_
           ·clear f A; intro c100 A f
            refine h_do f rfl rfl rfl rfl (y_pick rfl rfl rfl) ?_; clear f A; intro A f
            refine h_do f rfl rfl rfl rfl (y_pick rfl rfl rfl) ?_; clear f A; intro A f
            refine h_do f rfl rfl rfl rfl (y_move rfl rfl) ?_; clear f A; intro A f
            refine h_no f rfl rfl rfl ?_; clear f A; intro A f
            refine h_no f rfl rfl rfl ?_; clear f A; intro A f
            refine h_no f rfl rfl rfl ?_; clear f A; intro A f
            refine h_no f rfl rfl rfl ?_; clear f A; intro A f
            refine h_do f rfl rfl rfl rfl (y_pick rfl rfl rfl) ?_; clear f A; intro A f
            refine h_nil ?_
            refine x_tn ?_
            refine x_condT f rfl ?_
            refine wp_seq ?_
            refine sx_list ?_
            refine l_do f rfl rfl rfl (y_assign rfl rfl) ?_; clear f A; intro A f
            refine wpList_nil ?_
            refine x_tn ?_
            refine wp_ret ?_
            refine x_br ?_
            refine x_tr ?_
            refine x_tr ?_
            refine x_br ?_
            refine x_tr ?_
            refine x_ret1 f rfl rfl ?_
            exact ⟨HNo.out _ rfl (fun h => by have := hO h; omega), Below.next hw1 B1⟩
           clear f A; intro c100 A f
           refine h_do f rfl rfl rfl rfl (y_pick rfl rfl rfl) ?_; clear f A; intro A f
           refine h_do f rfl rfl rfl rfl (y_pick rfl rfl rfl) ?_; clear f A; intro A f
           refine h_do f rfl rfl rfl rfl (y_move rfl rfl) ?_; clear f A; intro A f
           have hlv : LvOk ⟨bav, bov, btv⟩ := ⟨by unfold ordOk; dsimp only; omega, by dsimp only; omega, by dsimp only; omega, by unfold typeOk; dsimp only; omega⟩
           have hip : InP ⟨bav, bov, btv⟩ := hlv.inP
           have hVs : LvOk (x.live.getD i .zero) := by rw [hXv.out]; exact hlv
           have hVo : 0 < i → (x.live.getD (i - 1) .zero).a < (x.live.getD i .zero).a := by
            intro h0
            first
            | (exfalso; omega)
            | (rw [hXu.out, hXv.out]; dsimp only; omega)
           refine h_do f rfl rfl rfl rfl (y_move rfl rfl) ?_; clear f A; intro A f
           refine h_do f rfl rfl rfl rfl (y_loadN (vs := [_, _, _]) rfl rfl (ag rfl) rfl ⟨(by assumption), (by assumption), (by assumption), trivial⟩) ?_; clear f A; intro A f
           refine h_call f rfl rfl rfl rfl (IsCall.mk' (cap := [_]) rfl rfl rfl) (pl rfl) (hm_add HI ⟨_, _, _⟩ hip) ?_
           clear f A
           rintro e W101 ⟨r102, ⟨rfl, HI2, hr2, hu2⟩ | ⟨rfl, hov, hb2⟩⟩
           ·have B1 := HI2.B
            have hS2 := hS.trans hu2
            refine ⟨_, rfl, hS2, ?_⟩; intro A f
            refine h_do f rfl rfl rfl rfl (y_not rfl rfl) ?_; clear f A; intro A f
            refine h_do f rfl rfl rfl rfl (y_pick rfl rfl rfl) ?_; clear f A; intro A f
            refine h_nil ?_
            refine x_tn ?_
            refine x_condF f rfl ?_
            refine wp_skip ?_
            refine x_bn ?_
            refine x_tn ?_
            refine sx_list ?_
            refine l_do f rfl rfl rfl (y_move rfl rfl) ?_; clear f A; intro A f
            refine l_do f rfl rfl rfl (y_add rfl rfl rfl rfl (by omega)) ?_; clear f A; intro A f
            refine l_do f rfl rfl rfl (y_assign rfl rfl) ?_; clear f A; intro A f
            refine wpList_nil ?_
            refine x_tn ?_
            exact ⟨x.vn - (i + 1), by omega, i + 1, _, rfl, by omega, f.sub ⟨rfl, rfl, rfl, trivial⟩, by rw [take_getD x.live i (by have := hx1.live.len; omega) hXv.out, ← List.append_assoc (x.ls.flatMap FL), ← List.append_assoc]; exact HI2, HV.succ hVs hVo⟩
           replace B1 := Below.next B1 hb2
           have hnz : ¬ Apt [] (placed x.hp) := fun h => by
            rw [placed_x] at h
            have e2 : x.live = x.live.take i ++ [⟨bav, bov, btv⟩] ++ x.live.drop (i + 1) := by rw [← take_getD x.live i (by have := hx1.live.len; omega) hXv.out, List.take_append_drop]
            rw [e2] at h
            exact hov (x.live.drop (i + 1)) (by simpa [List.append_assoc] using h)
           have hS2 := hS.trans (Bu2.of_below hb2)
           refine ⟨_, rfl, hS2, ?_⟩; intro A f
           refine h_do f rfl rfl rfl rfl (y_not rfl rfl) ?_; clear f A; intro A f
           refine h_do f rfl rfl rfl rfl (y_pick rfl rfl rfl) ?_; clear f A; intro A f
           refine h_nil ?_
           refine x_tn ?_
           refine x_condT f rfl ?_
           refine wp_seq ?_
           refine sx_list ?_
           refine l_do f rfl rfl rfl (y_assign rfl rfl) ?_; clear f A; intro A f
           refine wpList_nil ?_
           refine x_tn ?_
           refine wp_ret ?_
           refine x_br ?_
           refine x_tr ?_
           refine x_tr ?_
           refine x_br ?_
           refine x_tr ?_
           refine x_ret1 f rfl rfl ?_
           exact ⟨HNo.out _ rfl (fun h => hnz h.apart), Below.next hw1 B1⟩
          clear f A; intro c99 A f
          refine h_do f rfl rfl rfl rfl (y_move rfl rfl) ?_; clear f A; intro A f
          refine h_no f rfl rfl rfl ?_; clear f A; intro A f
          refine h_no f rfl rfl rfl ?_; clear f A; intro A f
          refine h_no f rfl rfl rfl ?_; clear f A; intro A f
          refine h_no f rfl rfl rfl ?_; clear f A; intro A f
          refine h_no f rfl rfl rfl ?_; clear f A; intro A f
          refine h_no f rfl rfl rfl ?_; clear f A; intro A f
          refine h_no f rfl rfl rfl ?_; clear f A; intro A f
          refine h_no f rfl rfl rfl ?_; clear f A; intro A f
          refine h_no f rfl rfl rfl ?_; clear f A; intro A f
          refine h_no f rfl rfl rfl ?_; clear f A; intro A f
          refine h_do f rfl rfl rfl rfl (y_pick rfl rfl rfl) ?_; clear f A; intro A f
          refine h_do f rfl rfl rfl rfl (y_pick rfl rfl rfl) ?_; clear f A; intro A f
          refine h_do f rfl rfl rfl rfl (y_move rfl rfl) ?_; clear f A; intro A f
          have hlv : LvOk ⟨bav, bov, btv⟩ := ⟨by unfold ordOk; dsimp only; omega, by dsimp only; omega, by dsimp only; omega, by unfold typeOk; dsimp only; omega⟩
          have hip : InP ⟨bav, bov, btv⟩ := hlv.inP
          have hVs : LvOk (x.live.getD i .zero) := by rw [hXv.out]; exact hlv
          have hVo : 0 < i → (x.live.getD (i - 1) .zero).a < (x.live.getD i .zero).a := by
           intro h0
           first
           | (exfalso; omega)
           | (rw [hXu.out, hXv.out]; dsimp only; omega)
          refine h_do f rfl rfl rfl rfl (y_move rfl rfl) ?_; clear f A; intro A f
          refine h_do f rfl rfl rfl rfl (y_loadN (vs := [_, _, _]) rfl rfl (ag rfl) rfl ⟨(by assumption), (by assumption), (by assumption), trivial⟩) ?_; clear f A; intro A f
          refine h_call f rfl rfl rfl rfl (IsCall.mk' (cap := [_]) rfl rfl rfl) (pl rfl) (hm_add HI ⟨_, _, _⟩ hip) ?_
          clear f A
          rintro e W104 ⟨r105, ⟨rfl, HI2, hr2, hu2⟩ | ⟨rfl, hov, hb2⟩⟩
          ·have B1 := HI2.B
           have hS2 := hS.trans hu2
           refine ⟨_, rfl, hS2, ?_⟩; intro A f
           refine h_do f rfl rfl rfl rfl (y_not rfl rfl) ?_; clear f A; intro A f
           refine h_do f rfl rfl rfl rfl (y_pick rfl rfl rfl) ?_; clear f A; intro A f
           refine h_nil ?_
           refine x_tn ?_
           refine x_condF f rfl ?_
           refine wp_skip ?_
           refine x_bn ?_
           refine x_tn ?_
           refine sx_list ?_
           refine l_do f rfl rfl rfl (y_move rfl rfl) ?_; clear f A; intro A f
           refine l_do f rfl rfl rfl (y_add rfl rfl rfl rfl (by omega)) ?_; clear f A; intro A f
           refine l_do f rfl rfl rfl (y_assign rfl rfl) ?_; clear f A; intro A f
           refine wpList_nil ?_
           refine x_tn ?_
           exact ⟨x.vn - (i + 1), by omega, i + 1, _, rfl, by omega, f.sub ⟨rfl, rfl, rfl, trivial⟩, by rw [take_getD x.live i (by have := hx1.live.len; omega) hXv.out, ← List.append_assoc (x.ls.flatMap FL), ← List.append_assoc]; exact HI2, HV.succ hVs hVo⟩
          replace B1 := Below.next B1 hb2
          have hnz : ¬ Apt [] (placed x.hp) := fun h => by
           rw [placed_x] at h
           have e2 : x.live = x.live.take i ++ [⟨bav, bov, btv⟩] ++ x.live.drop (i + 1) := by rw [← take_getD x.live i (by have := hx1.live.len; omega) hXv.out, List.take_append_drop]
           rw [e2] at h
           exact hov (x.live.drop (i + 1)) (by simpa [List.append_assoc] using h)
          have hS2 := hS.trans (Bu2.of_below hb2)
          refine ⟨_, rfl, hS2, ?_⟩; intro A f
          refine h_do f rfl rfl rfl rfl (y_not rfl rfl) ?_; clear f A; intro A f
          refine h_do f rfl rfl rfl rfl (y_pick rfl rfl rfl) ?_; clear f A; intro A f
          refine h_nil ?_
          refine x_tn ?_
          refine x_condT f rfl ?_
          refine wp_seq ?_
          refine sx_list ?_
          refine l_do f rfl rfl rfl (y_assign rfl rfl) ?_; clear f A; intro A f
          refine wpList_nil ?_
          refine x_tn ?_
          refine wp_ret ?_
          refine x_br ?_
          refine x_tr ?_
          refine x_tr ?_
          refine x_br ?_
          refine x_tr ?_
          refine x_ret1 f rfl rfl ?_
          exact ⟨HNo.out _ rfl (fun h => hnz h.apart), Below.next hw1 B1⟩
         clear f A; intro c98 W97 hb96 A f
         replace B1 := Below.next B1 hb96; replace HI := HI.below hb96; replace hS := hS.grow hb96
         refine h_do f rfl rfl rfl rfl (y_not rfl rfl) ?_; clear f A; intro A f
         refine h_do f rfl rfl rfl rfl (y_pick rfl rfl rfl) ?_; clear f A; intro A f
         refine h_do f rfl rfl rfl rfl (y_move rfl rfl) ?_; clear f A; intro A f
         refine h_no f rfl rfl rfl ?_; clear f A; intro A f
         refine h_no f rfl rfl rfl ?_; clear f A; intro A f
         refine h_no f rfl rfl rfl ?_; clear f A; intro A f
         refine h_no f rfl rfl rfl ?_; clear f A; intro A f
         refine h_no f rfl rfl rfl ?_; clear f A; intro A f
         refine h_no f rfl rfl rfl ?_; clear f A; intro A f
         refine h_no f rfl rfl rfl ?_; clear f A; intro A f
         refine h_no f rfl rfl rfl ?_; clear f A; intro A f
         refine h_no f rfl rfl rfl ?_; clear f A; intro A f
         refine h_no f rfl rfl rfl ?_; clear f A; intro A f
         refine h_no f rfl rfl rfl ?_; clear f A; intro A f
         refine h_no f rfl rfl rfl ?_; clear f A; intro A f
         refine h_no f rfl rfl rfl ?_; clear f A; intro A f
         refine h_no f rfl rfl rfl ?_; clear f A; intro A f
         refine h_do f rfl rfl rfl rfl (y_pick rfl rfl rfl) ?_; clear f A; intro A f
         refine h_do f rfl rfl rfl rfl (y_move rfl rfl) ?_; clear f A; intro A f
         refine h_no f rfl rfl rfl ?_; clear f A; intro A f
         refine h_no f rfl rfl rfl ?_; clear f A; intro A f
         refine h_no f rfl rfl rfl ?_; clear f A; intro A f
         refine h_no f rfl rfl rfl ?_; clear f A; intro A f
         refine h_do f rfl rfl rfl rfl (y_pick rfl rfl rfl) ?_; clear f A; intro A f
         refine h_nil ?_
         refine x_tn ?_
         refine x_condT f rfl ?_
         refine wp_seq ?_
         refine sx_list ?_
         refine l_do f rfl rfl rfl (y_assign rfl rfl) ?_; clear f A; intro A f
         refine wpList_nil ?_
         refine x_tn ?_
         refine wp_ret ?_
         refine x_br ?_
         refine x_tr ?_
         refine x_tr ?_
         refine x_br ?_
         refine x_tr ?_
         refine x_ret1 f rfl rfl ?_
         exact ⟨HNo.out _ rfl (fun h => by have := hV h; omega), Below.next hw1 B1⟩
        clear f A; intro c92 W91 hb90 A f
        replace B1 := Below.next B1 hb90; replace HI := HI.below hb90; replace hS := hS.grow hb90
        refine h_do f rfl rfl rfl rfl (y_not rfl rfl) ?_; clear f A; intro A f
        refine h_do f rfl rfl rfl rfl (y_pick rfl rfl rfl) ?_; clear f A; intro A f
        refine h_do f rfl rfl rfl rfl (y_move rfl rfl) ?_; clear f A; intro A f
        refine h_no f rfl rfl rfl ?_; clear f A; intro A f
        refine h_no f rfl rfl rfl ?_; clear f A; intro A f
        refine h_no f rfl rfl rfl ?_; clear f A; intro A f
        refine h_no f rfl rfl rfl ?_; clear f A; intro A f
        refine h_no f rfl rfl rfl ?_; clear f A; intro A f
        refine h_no f rfl rfl rfl ?_; clear f A; intro A f
        refine h_no f rfl rfl rfl ?_; clear f A; intro A f
        refine h_do f rfl rfl rfl rfl (y_pick rfl rfl rfl) ?_; clear f A; intro A f
        refine h_do f rfl rfl rfl rfl (y_move rfl rfl) ?_; clear f A; intro A f
        refine h_no f rfl rfl rfl ?_; clear f A; intro A f
        refine h_no f rfl rfl rfl ?_; clear f A; intro A f
        refine h_no f rfl rfl rfl ?_; clear f A; intro A f
        refine h_no f rfl rfl rfl ?_; clear f A; intro A f
        refine h_do f rfl rfl rfl rfl (y_pick rfl rfl rfl) ?_; clear f A; intro A f
        refine h_do f rfl rfl rfl rfl (y_move rfl rfl) ?_; clear f A; intro A f
        refine h_no f rfl rfl rfl ?_; clear f A; intro A f
        refine h_no f rfl rfl rfl ?_; clear f A; intro A f
        refine h_no f rfl rfl rfl ?_; clear f A; intro A f
        refine h_no f rfl rfl rfl ?_; clear f A; intro A f
        refine h_no f rfl rfl rfl ?_; clear f A; intro A f
        refine h_no f rfl rfl rfl ?_; clear f A; intro A f
        refine h_no f rfl rfl rfl ?_; clear f A; intro A f
        refine h_no f rfl rfl rfl ?_; clear f A; intro A f
        refine h_no f rfl rfl rfl ?_; clear f A; intro A f
        refine h_no f rfl rfl rfl ?_; clear f A; intro A f
        refine h_no f rfl rfl rfl ?_; clear f A; intro A f
        refine h_no f rfl rfl rfl ?_; clear f A; intro A f
        refine h_no f rfl rfl rfl ?_; clear f A; intro A f
        refine h_no f rfl rfl rfl ?_; clear f A; intro A f
        refine h_do f rfl rfl rfl rfl (y_pick rfl rfl rfl) ?_; clear f A; intro A f
        refine h_do f rfl rfl rfl rfl (y_move rfl rfl) ?_; clear f A; intro A f
        refine h_no f rfl rfl rfl ?_; clear f A; intro A f
        refine h_no f rfl rfl rfl ?_; clear f A; intro A f
        refine h_no f rfl rfl rfl ?_; clear f A; intro A f
        refine h_no f rfl rfl rfl ?_; clear f A; intro A f
        refine h_do f rfl rfl rfl rfl (y_pick rfl rfl rfl) ?_; clear f A; intro A f
        refine h_nil ?_
        refine x_tn ?_
        refine x_condT f rfl ?_
        refine wp_seq ?_
        refine sx_list ?_
        refine l_do f rfl rfl rfl (y_assign rfl rfl) ?_; clear f A; intro A f
        refine wpList_nil ?_
        refine x_tn ?_
        refine wp_ret ?_
        refine x_br ?_
        refine x_tr ?_
        refine x_tr ?_
        refine x_br ?_
        refine x_tr ?_
        refine x_ret1 f rfl rfl ?_
        exact ⟨HNo.out _ rfl (fun h => by have := hV h; omega), Below.next hw1 B1⟩
       clear f A; intro c89 W88 hb87 A f
       replace B1 := Below.next B1 hb87; replace HI := HI.below hb87; replace hS := hS.grow hb87
       refine h_do f rfl rfl rfl rfl (y_not rfl rfl) ?_; clear f A; intro A f
       refine h_do f rfl rfl rfl rfl (y_move rfl rfl) ?_; clear f A; intro A f
       refine h_no f rfl rfl rfl ?_; clear f A; intro A f
       refine h_no f rfl rfl rfl ?_; clear f A; intro A f
       refine h_no f rfl rfl rfl ?_; clear f A; intro A f
       refine h_no f rfl rfl rfl ?_; clear f A; intro A f
       refine h_do f rfl rfl rfl rfl (y_pick rfl rfl rfl) ?_; clear f A; intro A f
       refine h_do f rfl rfl rfl rfl (y_move rfl rfl) ?_; clear f A; intro A f
       refine h_no f rfl rfl rfl ?_; clear f A; intro A f
       refine h_no f rfl rfl rfl ?_; clear f A; intro A f
       refine h_no f rfl rfl rfl ?_; clear f A; intro A f
       refine h_no f rfl rfl rfl ?_; clear f A; intro A f
       refine h_no f rfl rfl rfl ?_; clear f A; intro A f
       refine h_no f rfl rfl rfl ?_; clear f A; intro A f
       refine h_no f rfl rfl rfl ?_; clear f A; intro A f
       refine h_do f rfl rfl rfl rfl (y_pick rfl rfl rfl) ?_; clear f A; intro A f
       refine h_do f rfl rfl rfl rfl (y_move rfl rfl) ?_; clear f A; intro A f
       refine h_no f rfl rfl rfl ?_; clear f A; intro A f
       refine h_no f rfl rfl rfl ?_; clear f A; intro A f
       refine h_no f rfl rfl rfl ?_; clear f A; intro A f
       refine h_no f rfl rfl rfl ?_; clear f A; intro A f
       refine h_do f rfl rfl rfl rfl (y_pick rfl rfl rfl) ?_; clear f A; intro A f
       refine h_do f rfl rfl rfl rfl (y_move rfl rfl) ?_; clear f A; intro A f
       refine h_no f rfl rfl rfl ?_; clear f A; intro A f
       refine h_no f rfl rfl rfl ?_; clear f A; intro A f
       refine h_no f rfl rfl rfl ?_; clear f A; intro A f
       refine h_no f rfl rfl rfl ?_; clear f A; intro A f
       refine h_no f rfl rfl rfl ?_; clear f A; intro A f
       refine h_no f rfl rfl rfl ?_; clear f A; intro A f
       refine h_no f rfl rfl rfl ?_; clear f A; intro A f
       refine h_no f rfl rfl rfl ?_; clear f A; intro A f
       refine h_no f rfl rfl rfl ?_; clear f A; intro A f
       refine h_no f rfl rfl rfl ?_; clear f A; intro A f
       refine h_no f rfl rfl rfl ?_; clear f A; intro A f
       refine h_no f rfl rfl rfl ?_; clear f A; intro A f
       refine h_no f rfl rfl rfl ?_; clear f A; intro A f
       refine h_no f rfl rfl rfl ?_; clear f A; intro A f
       refine h_do f rfl rfl rfl rfl (y_pick rfl rfl rfl) ?_; clear f A; intro A f
       refine h_do f rfl rfl rfl rfl (y_move rfl rfl) ?_; clear f A; intro A f
       refine h_no f rfl rfl rfl ?_; clear f A; intro A f
       refine h_no f rfl rfl rfl ?_; clear f A; intro A f
       refine h_no f rfl rfl rfl ?_; clear f A; intro A f
       refine h_no f rfl rfl rfl ?_; clear f A; intro A f
       refine h_do f rfl rfl rfl rfl (y_pick rfl rfl rfl) ?_; clear f A; intro A f
       refine h_nil ?_
       refine x_tn ?_
       refine x_condT f rfl ?_
       refine wp_seq ?_
       refine sx_list ?_
       refine l_do f rfl rfl rfl (y_assign rfl rfl) ?_; clear f A; intro A f
       refine wpList_nil ?_
       refine x_tn ?_
       refine wp_ret ?_
       refine x_br ?_
       refine x_tr ?_
       refine x_tr ?_
       refine x_br ?_
       refine x_tr ?_
       refine x_ret1 f rfl rfl ?_
       exact ⟨HNo.out _ rfl (fun h => by have := hV h; omega), Below.next hw1 B1⟩
      clear f A; intro c82 A f
      refine wpList_nil ?_
      refine x_tn ?_
      refine x_condF f rfl ?_
      refine wp_exit ?_
      refine x_te ?_
      refine x_te ?_
      refine x_bh ?_
      refine x_tn ?_
      refine wp_seq ?_
      refine sx_list ?_
      refine l_do f rfl rfl rfl (y_assign rfl rfl) ?_; clear f A; intro A f
      refine wpList_nil ?_
      refine x_tn ?_
      refine wp_ret ?_
      refine x_ret1 f rfl rfl ?_
      have hall : x.live.take i = x.live := List.take_of_length_le (by have := hx1.live.len; omega)
      rw [hall, ← placed_x] at HI
      exact ⟨⟨true, rfl, fun _ => ⟨hzs, hmn, hcp, hLss, ⟨fun j hj => HV.ok j (by have := hx1.live.len; have e : x.hp.live = x.live := rfl; rw [e] at hj; omega), fun j h0 hj => HV.ord j h0 (by have := hx1.live.len; have e : x.hp.live = x.live := rfl; rw [e] at hj; omega)⟩, HI.apt⟩, fun _ => rfl⟩, Below.next hw1 B1⟩
     clear f A; intro c25 A f
     refine q_do f rfl rfl rfl (y_not rfl rfl) ?_; clear f A; intro A f
     refine q_do f rfl rfl rfl (y_pick rfl rfl rfl) ?_; clear f A; intro A f
     refine wpQuiet_nil ?_; intro W108 hb107; replace B1 := Below.next B1 hb107
     refine x_tn ?_
     refine x_condT f rfl ?_
     refine wp_seq ?_
     refine sx_list ?_
     refine l_do f rfl rfl rfl (y_assign rfl rfl) ?_; clear f A; intro A f
     refine wpList_nil ?_
     refine x_tn ?_
     refine wp_ret ?_
     refine x_tr ?_
     refine x_ret1 f rfl rfl ?_
     exact ⟨HNo.out _ rfl (fun h => c25 (by have := h.mn.b; rw [em1] at this; exact this)), Below.next hw1 B1⟩
    clear f A; intro c24 A f
    refine q_do f rfl rfl rfl (y_not rfl rfl) ?_; clear f A; intro A f
    refine q_do f rfl rfl rfl (y_pick rfl rfl rfl) ?_; clear f A; intro A f
    refine q_do f rfl rfl rfl (y_move rfl rfl) ?_; clear f A; intro A f
    refine q_no f rfl rfl rfl ?_; clear f A; intro A f
    refine q_no f rfl rfl rfl ?_; clear f A; intro A f
    refine q_no f rfl rfl rfl ?_; clear f A; intro A f
    refine q_no f rfl rfl rfl ?_; clear f A; intro A f
    refine q_no f rfl rfl rfl ?_; clear f A; intro A f
    refine q_no f rfl rfl rfl ?_; clear f A; intro A f
    refine q_do f rfl rfl rfl (y_pick rfl rfl rfl) ?_; clear f A; intro A f
    refine wpQuiet_nil ?_; intro W110 hb109; replace B1 := Below.next B1 hb109
    refine x_tn ?_
    refine x_condT f rfl ?_
    refine wp_seq ?_
    refine sx_list ?_
    refine l_do f rfl rfl rfl (y_assign rfl rfl) ?_; clear f A; intro A f
    refine wpList_nil ?_
    refine x_tn ?_
    refine wp_ret ?_
    refine x_tr ?_
    refine x_ret1 f rfl rfl ?_
    exact ⟨HNo.out _ rfl (fun h => c24 (by have := h.mn.a; rw [em0] at this; exact this)), Below.next hw1 B1⟩
   clear f A; intro c12 W14 hb13 A f
   replace B1 := Below.next B1 hb13
   refine l_do f rfl rfl rfl (y_not rfl rfl) ?_; clear f A; intro A f
   refine l_do f rfl rfl rfl (y_pick rfl rfl rfl) ?_; clear f A; intro A f
   refine wpList_nil ?_
   refine x_tn ?_
   refine x_condT f rfl ?_
   refine wp_seq ?_
   refine sx_list ?_
   refine l_do f rfl rfl rfl (y_assign rfl rfl) ?_; clear f A; intro A f
   refine wpList_nil ?_
   refine x_tn ?_
   refine wp_ret ?_
   refine x_tr ?_
   refine x_ret1 f rfl rfl ?_
   exact ⟨HNo.out _ rfl (fun h => c12 (e1 ▸ h.zs.m1)), Below.next hw1 B1⟩
  clear f A; intro c9 W11 hb10 A f
  replace B1 := Below.next B1 hb10
  refine l_do f rfl rfl rfl (y_not rfl rfl) ?_; clear f A; intro A f
  refine l_do f rfl rfl rfl (y_pick rfl rfl rfl) ?_; clear f A; intro A f
  refine l_do f rfl rfl rfl (y_move rfl rfl) ?_; clear f A; intro A f
  refine l_no f rfl rfl rfl ?_; clear f A; intro A f
  refine l_no f rfl rfl rfl ?_; clear f A; intro A f
  refine l_no f rfl rfl rfl ?_; clear f A; intro A f
  refine l_no f rfl rfl rfl ?_; clear f A; intro A f
  refine l_no f rfl rfl rfl ?_; clear f A; intro A f
  refine l_no f rfl rfl rfl ?_; clear f A; intro A f
  refine l_do f rfl rfl rfl (y_pick rfl rfl rfl) ?_; clear f A; intro A f
  refine wpList_nil ?_
  refine x_tn ?_
  refine x_condT f rfl ?_
  refine wp_seq ?_
  refine sx_list ?_
  refine l_do f rfl rfl rfl (y_assign rfl rfl) ?_; clear f A; intro A f
  refine wpList_nil ?_
  refine x_tn ?_
  refine wp_ret ?_
  refine x_tr ?_
  refine x_ret1 f rfl rfl ?_
  exact ⟨HNo.out _ rfl (fun h => c9 (e0 ▸ h.zs.m0)), Below.next hw1 B1⟩
 clear f A; intro c6 W8 hb7 A f
 replace B1 := Below.next B1 hb7
 refine l_do f rfl rfl rfl (y_not rfl rfl) ?_; clear f A; intro A f
 refine l_do f rfl rfl rfl (y_pick rfl rfl rfl) ?_; clear f A; intro A f
 refine l_do f rfl rfl rfl (y_move rfl rfl) ?_; clear f A; intro A f
 refine l_no f rfl rfl rfl ?_; clear f A; intro A f
 refine l_no f rfl rfl rfl ?_; clear f A; intro A f
 refine l_no f rfl rfl rfl ?_; clear f A; intro A f
 refine l_no f rfl rfl rfl ?_; clear f A; intro A f
 refine l_no f rfl rfl rfl ?_; clear f A; intro A f
 refine l_no f rfl rfl rfl ?_; clear f A; intro A f
 refine l_do f rfl rfl rfl (y_pick rfl rfl rfl) ?_; clear f A; intro A f
 refine l_do f rfl rfl rfl (y_move rfl rfl) ?_; clear f A; intro A f
 refine l_no f rfl rfl rfl ?_; clear f A; intro A f
 refine l_no f rfl rfl rfl ?_; clear f A; intro A f
 refine l_no f rfl rfl rfl ?_; clear f A; intro A f
 refine l_no f rfl rfl rfl ?_; clear f A; intro A f
 refine l_no f rfl rfl rfl ?_; clear f A; intro A f
 refine l_no f rfl rfl rfl ?_; clear f A; intro A f
 refine l_do f rfl rfl rfl (y_pick rfl rfl rfl) ?_; clear f A; intro A f
 refine wpList_nil ?_
 refine x_tn ?_
 refine x_condT f rfl ?_
 refine wp_seq ?_
 refine sx_list ?_
 refine l_do f rfl rfl rfl (y_assign rfl rfl) ?_; clear f A; intro A f
 refine wpList_nil ?_
 refine x_tn ?_
 refine wp_ret ?_
 refine x_tr ?_
 refine x_ret1 f rfl rfl ?_
 exact ⟨HNo.out _ rfl (fun h => c6 h.cpus), Below.next hw1 B1⟩
end Go.Proofs.Ytnijjpakpphhhaa
