/-
  OWN TEXTS, bundled: WPagesChecks.
-/
import Derived.Test.YtkjnblpmbldblaaPagesChecksPart10
import Derived.Test.YtkjnblpmbldblaaPagesChecksPart7

/-
  OWN TEXT. The walk of the law PagesChecks: it returns true and writes nothing that was there (written by sxpc.py).
-/
namespace Go.Proofs.Ytkjnblpmbldblaa
open Go Go.RowKit Go.Proofs.Ytkjnblpmbldblaa.Kit

theorem pagesChecks_walk (x : Hx) (w : World) (h : IsHeap w x) :
    Calls Try.prog 4 #[.agg #[.slice x.zo x.zn x.zc, .slice x.mo x.mn x.mc, .int .i64 x.cpus, .slice x.lo x.ln x.lc, .slice x.vo x.vn x.vc]] w fun e w' => e = .returned (.bool true) ∧ Below w.heap.size w w' := by
  have hx := h.at_
  have D0 : Decidable (HMay x.hp) := Classical.propDecidable _
  obtain ⟨cc, hcc⟩ : ∃ cc : Int, (HMay x.hp ∧ cc = 0) ∨ (¬ HMay x.hp ∧ cc = 8) := by
    by_cases h : HMay x.hp
    · exact ⟨0, .inl ⟨h, rfl⟩⟩
    · exact ⟨8, .inr ⟨h, rfl⟩⟩
  have HC : ∀ W, x.At W → Calls Try.prog 11 #[.agg #[.slice x.zo x.zn x.zc, .slice x.mo x.mn x.mc, .int .i64 x.cpus, .slice x.lo x.ln x.lc, .slice x.vo x.vn x.vc]] W fun e w' => e = .returned (.int .i64 cc) ∧ Below W.heap.size W w' := by
    intro W hW
    refine (pCheck_any W x hW).mono ?_
    rintro e w' ⟨⟨c, rfl, hc⟩, hb⟩
    refine ⟨?_, hb⟩
    rcases hc with ⟨rfl, h1⟩ | ⟨rfl, h1⟩ <;> rcases hcc with ⟨q1, q2⟩ | ⟨q1, q2⟩ <;> first | (subst q2; rfl) | contradiction
  refine sx_enter (args := [_]) 22 Try.func4 rfl rfl rfl ?_
  intro A f
  refine wp_seq ?_
  refine sx_list ?_
  refine l_box f rfl rfl rfl rfl rfl ?_; clear f A; intro b1 W2 eb1 hb3 rb1 A f; skip
  have hw1 := hb3
  obtain ⟨a0, a1, a2, a3, a4, -⟩ := sts_row (cs := [_, _, _, _, _]) rb1
  have hx1 := hx.below hw1
  have B1 := Below.refl W2.heap.size W2
  refine l_do f rfl rfl rfl (y_assign rfl rfl) ?_; clear f A; intro A f
  refine wpList_nil ?_
  refine x_tn ?_
  refine wp_seq ?_
  refine sx_list ?_
  refine l_do f rfl rfl rfl (y_loadN (vs := [_, _, _, _, _]) rfl rfl (ag rfl) rfl ⟨(by first | assumption | exact St.q a0 B1 | exact St.q a1 B1 | exact St.q a2 B1 | exact St.q a3 B1 | exact St.q a4 B1), (by first | assumption | exact St.q a0 B1 | exact St.q a1 B1 | exact St.q a2 B1 | exact St.q a3 B1 | exact St.q a4 B1), (by first | assumption | exact St.q a0 B1 | exact St.q a1 B1 | exact St.q a2 B1 | exact St.q a3 B1 | exact St.q a4 B1), (by first | assumption | exact St.q a0 B1 | exact St.q a1 B1 | exact St.q a2 B1 | exact St.q a3 B1 | exact St.q a4 B1), (by first | assumption | exact St.q a0 B1 | exact St.q a1 B1 | exact St.q a2 B1 | exact St.q a3 B1 | exact St.q a4 B1), trivial⟩) ?_; clear f A; intro A f
  refine l_call f rfl rfl rfl (IsCall.mk' (cap := []) rfl rfl rfl) (pl rfl) (HC _ (hx1.below B1)) ?_; clear f A; rintro _ W5 ⟨rfl, hb4⟩; refine ⟨_, rfl, ?_⟩; intro A f; replace B1 := Below.next B1 hb4
  refine l_do f rfl rfl rfl (y_assign rfl rfl) ?_; clear f A; intro A f
  refine wpList_nil ?_
  refine x_tn ?_
  refine wp_seq ?_
  refine sx_list ?_
  refine l_do f rfl rfl rfl (y_loadN (vs := [_, _, _, _, _]) rfl rfl (ag rfl) rfl ⟨(by first | assumption | exact St.q a0 B1 | exact St.q a1 B1 | exact St.q a2 B1 | exact St.q a3 B1 | exact St.q a4 B1), (by first | assumption | exact St.q a0 B1 | exact St.q a1 B1 | exact St.q a2 B1 | exact St.q a3 B1 | exact St.q a4 B1), (by first | assumption | exact St.q a0 B1 | exact St.q a1 B1 | exact St.q a2 B1 | exact St.q a3 B1 | exact St.q a4 B1), (by first | assumption | exact St.q a0 B1 | exact St.q a1 B1 | exact St.q a2 B1 | exact St.q a3 B1 | exact St.q a4 B1), (by first | assumption | exact St.q a0 B1 | exact St.q a1 B1 | exact St.q a2 B1 | exact St.q a3 B1 | exact St.q a4 B1), trivial⟩) ?_; clear f A; intro A f
  refine l_callif _ f rfl rfl rfl (IsCall.mk' (cap := []) rfl rfl rfl) (pl rfl) (c_iff (heapMay_any _ x (hx1.below B1))) ?_ ?_
  · clear f A; intro c6 W8 hb7 A f
    replace B1 := Below.next B1 hb7
    refine l_do f rfl rfl rfl (y_assign rfl rfl) ?_; clear f A; intro A f
    refine wpList_nil ?_
    refine x_tn ?_
    refine wp_seq ?_
    refine sx_list ?_
    refine l_do f rfl rfl rfl (y_move rfl rfl) ?_; clear f A; intro A f
    refine l_do f rfl rfl rfl (y_move rfl rfl) ?_; clear f A; intro A f
    refine l_do f rfl rfl rfl (y_move rfl rfl) ?_; clear f A; intro A f
    refine l_if _ f rfl rfl rfl (y_eql rfl rfl rfl) ?_ ?_
    · clear f A; intro c9 A f
      refine l_do f rfl rfl rfl (y_pick rfl rfl rfl) ?_; clear f A; intro A f
      refine l_do f rfl rfl rfl (y_move rfl rfl) ?_; clear f A; intro A f
      refine l_no f rfl rfl rfl ?_; clear f A; intro A f
      refine l_no f rfl rfl rfl ?_; clear f A; intro A f
      refine l_no f rfl rfl rfl ?_; clear f A; intro A f
      refine l_no f rfl rfl rfl ?_; clear f A; intro A f
      refine l_no f rfl rfl rfl ?_; clear f A; intro A f
      refine l_no f rfl rfl rfl ?_; clear f A; intro A f
      refine l_do f rfl rfl rfl (y_pick rfl rfl rfl) ?_; clear f A; intro A f
      refine l_do f rfl rfl rfl (y_assign rfl rfl) ?_; clear f A; intro A f
      refine wpList_nil ?_
      refine x_tn ?_
      refine wp_ret ?_
      refine x_ret1 f rfl rfl ?_
      -- return 0: c6@8 c9@12
      first
      | exact ⟨rfl, Below.next hw1 B1⟩
      | (exfalso; rcases hcc with ⟨q1, q2⟩ | ⟨q1, q2⟩ <;> first | omega | contradiction)
    · clear f A; intro c9 A f
      refine l_do f rfl rfl rfl (y_pick rfl rfl rfl) ?_; clear f A; intro A f
      refine l_do f rfl rfl rfl (y_move rfl rfl) ?_; clear f A; intro A f
      refine l_do f rfl rfl rfl (y_move rfl rfl) ?_; clear f A; intro A f
      refine l_do f rfl rfl rfl (y_not rfl rfl) ?_; clear f A; intro A f
      refine l_do f rfl rfl rfl (y_move rfl rfl) ?_; clear f A; intro A f
      refine l_no f rfl rfl rfl ?_; clear f A; intro A f
      refine l_no f rfl rfl rfl ?_; clear f A; intro A f
      refine l_do f rfl rfl rfl (y_pick rfl rfl rfl) ?_; clear f A; intro A f
      refine l_do f rfl rfl rfl (y_pick rfl rfl rfl) ?_; clear f A; intro A f
      refine l_do f rfl rfl rfl (y_assign rfl rfl) ?_; clear f A; intro A f
      refine wpList_nil ?_
      refine x_tn ?_
      refine wp_ret ?_
      refine x_ret1 f rfl rfl ?_
      -- return 1: c6@8 ¬c9@12
      first
      | exact ⟨rfl, Below.next hw1 B1⟩
      | (exfalso; rcases hcc with ⟨q1, q2⟩ | ⟨q1, q2⟩ <;> first | omega | contradiction)
  · clear f A; intro c6 W8 hb7 A f
    replace B1 := Below.next B1 hb7
    refine l_do f rfl rfl rfl (y_assign rfl rfl) ?_; clear f A; intro A f
    refine wpList_nil ?_
    refine x_tn ?_
    refine wp_seq ?_
    refine sx_list ?_
    refine l_do f rfl rfl rfl (y_move rfl rfl) ?_; clear f A; intro A f
    refine l_do f rfl rfl rfl (y_move rfl rfl) ?_; clear f A; intro A f
    refine l_no f rfl rfl rfl ?_; clear f A; intro A f
    refine l_no f rfl rfl rfl ?_; clear f A; intro A f
    refine l_do f rfl rfl rfl (y_pick rfl rfl rfl) ?_; clear f A; intro A f
    refine l_do f rfl rfl rfl (y_move rfl rfl) ?_; clear f A; intro A f
    refine l_do f rfl rfl rfl (y_move rfl rfl) ?_; clear f A; intro A f
    refine l_do f rfl rfl rfl (y_not rfl rfl) ?_; clear f A; intro A f
    refine l_do f rfl rfl rfl (y_move rfl rfl) ?_; clear f A; intro A f
    refine l_do f rfl rfl rfl (y_move rfl rfl) ?_; clear f A; intro A f
    refine l_if _ f rfl rfl rfl (y_eql rfl rfl rfl) ?_ ?_
    · clear f A; intro c10 A f
      refine l_do f rfl rfl rfl (y_pick rfl rfl rfl) ?_; clear f A; intro A f
      refine l_do f rfl rfl rfl (y_pick rfl rfl rfl) ?_; clear f A; intro A f
      refine l_do f rfl rfl rfl (y_assign rfl rfl) ?_; clear f A; intro A f
      refine wpList_nil ?_
      refine x_tn ?_
      refine wp_ret ?_
      refine x_ret1 f rfl rfl ?_
      -- return 2: ¬c6@8 c10@19
      first
      | exact ⟨rfl, Below.next hw1 B1⟩
      | (exfalso; rcases hcc with ⟨q1, q2⟩ | ⟨q1, q2⟩ <;> first | omega | contradiction)
    · clear f A; intro c10 A f
      refine l_do f rfl rfl rfl (y_pick rfl rfl rfl) ?_; clear f A; intro A f
      refine l_do f rfl rfl rfl (y_pick rfl rfl rfl) ?_; clear f A; intro A f
      refine l_do f rfl rfl rfl (y_assign rfl rfl) ?_; clear f A; intro A f
      refine wpList_nil ?_
      refine x_tn ?_
      refine wp_ret ?_
      refine x_ret1 f rfl rfl ?_
      -- return 3: ¬c6@8 ¬c10@19
      first
      | exact ⟨rfl, Below.next hw1 B1⟩
      | (exfalso; rcases hcc with ⟨q1, q2⟩ | ⟨q1, q2⟩ <;> first | omega | contradiction)

end Go.Proofs.Ytkjnblpmbldblaa
