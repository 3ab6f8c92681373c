/-
  OWN TEXTS, bundled: WPagesNew, RArgs, RArgs2.
-/
import Derived.Test.YtbjlbmofdnkmiaaPagesNewPart14
import Derived.Test.YtbjlbmofdnkmiaaPagesNewPart17
import Derived.Test.YtbjlbmofdnkmiaaPagesNewPart5
import Derived.Test.YtbjlbmofdnkmiaaPagesNewPart3
import Derived.Test.YtbjlbmofdnkmiaaPagesNewPart1

/-
  OWN TEXT. The walk of the law PagesNew: it returns true and writes nothing that was there (written by sxpn.py).
-/
namespace Go.Proofs.Ytbjlbmofdnkmiaa
open Go Go.RowKit Go.Proofs.Ytbjlbmofdnkmiaa.Kit

/-- 'append([]api.Region(nil), l...)': new memory with the same regions. -/
theorem regs_copy_run (w : World) (ty : TypeId) (ao : Option Addr) (n cap : Nat) (l : List (Int × Int)) (h : IsRegs w ao n cap l) :
    ∃ bo c W, (Builtin.append_ #[22, 22] ty #[.slice none 0 0, .slice ao n cap]).run Try.prog w = .ok (.slice bo n c) W ∧ Regs W bo n l ∧ Below w.heap.size w W := by
  obtain ⟨i0, hi, hz0, hz1, hz2⟩ := info_parts info_region
  have hr := h.reach
  have hle := h.le
  have hln := h.len
  cases ao with
  | none =>
    obtain ⟨rfl, rfl⟩ := h.nil rfl
    have hl : l = [] := List.eq_nil_of_length_eq_zero hln
    subst hl
    exact ⟨none, 0, w, run_append_owned_none (P := Try.prog) w w.heap.size 22 ty 84 i0 2 Try.underlying22 hi (.slice none 0 0) 0 [] (World.ownsRow_nil _ _ _ _), regs_none _, Below.refl _ _⟩
  | some a =>
    have hsrc : ∀ j u, (rvals l)[j]? = some u → w.cell? (a.add j) = some u := by
      by_cases h0 : 0 < l.length
      · obtain ⟨a', he, hs⟩ := rsrc_of h.at_ h0
        cases he
        exact hs
      · intro j u hj
        have : rvals l = [] := List.eq_nil_of_length_eq_zero (by rw [length_rvals]; omega)
        rw [this] at hj
        simp at hj
    obtain ⟨v', w1, hrun, hown, hgrow, _⟩ := run_append_own (P := Try.prog) w w.heap.size 22 ty 84 i0 (.agg #[.int .i64 0, .int .i64 0]) 2 16 Try.underlying22 hi hz0 hz1 hz2 rfl (by decide) (.slice none 0 0) 0 [] (World.ownsRow_nil _ _ _ _) a n cap (rvals l) (by rw [length_rvals, hln]) hsrc (rvals_oneCell l) (by unfold maxLen; omega) (by omega) (Nat.le_refl _)
    obtain ⟨bo, c, rfl⟩ := owns_shape hown
    rw [Nat.zero_add, List.nil_append] at hown
    have hb : Below w.heap.size w w1 := (Below.refl _ _).grown hgrow (Nat.le_refl _) (by simp [Value.ownBlock])
    rw [Nat.zero_add] at hrun
    exact ⟨bo, c, w1, hrun, ⟨hln, by omega, regs_of_owns hown⟩, hb⟩

/-- No heap. -/
def Kit.Hx.none : Hx := ⟨[], .none, 0, 0, [], .none, 0, 0, 0, [], .none, 0, 0, [], .none, 0, 0⟩
theorem none_at (w : World) : Hx.none.At w := ⟨Zons.nil _, Nums.nil _, Lsts.nil _, Blks.nil _⟩
set_option maxRecDepth 10000 in
set_option maxHeartbeats 4000000 in
theorem pagesNew_walk (ao : Option Addr) (n cap : Nat) (l : List (Int × Int)) (split least cpus : Int) (w : World) (h : IsRegs w ao n cap l) (ws : (Lit.int .i64 split).wf = true) (_wl : (Lit.int .i64 least).wf = true) (_wc : (Lit.int .i64 cpus).wf = true) :
    Calls Try.prog 3 #[.slice ao n cap, .int .i64 split, .int .i64 least, .int .i64 cpus] w fun e w' => e = .returned (.bool true) ∧ Below w.heap.size w w' := by
  have hR : Regs w ao n l := ⟨h.len, by have := h.le; have := h.reach; omega, h.at_⟩
  have hT := h.top
  obtain ⟨cc, G, hu, HD, HR⟩ : ∃ (cc : Int) (G : Hp → Prop), (∀ a b, G a → G b → a = b) ∧ (∀ W bo c, Regs W bo n l → Calls Try.prog 8 #[.slice bo n c, .int .i64 split, .int .i64 least, .int .i64 cpus] W fun e w' => (∃ z : Hx, e = .returned (.tuple #[.agg #[.slice z.zo z.zn z.zc, .slice z.mo z.mn z.mc, .int .i64 z.cpus, .slice z.lo z.ln z.lc, .slice z.vo z.vn z.vc], .int .i64 cc]) ∧ G z.hp ∧ z.At w') ∧ Below W.heap.size W w') ∧ (∀ W, Regs W ao n l → Calls Try.prog 9 #[.slice ao n cap, .int .i64 split, .int .i64 least, .int .i64 cpus] W fun e w' => (∃ z : Hx, e = .returned (.tuple #[.agg #[.slice z.zo z.zn z.zc, .slice z.mo z.mn z.mc, .int .i64 z.cpus, .slice z.lo z.ln z.lc, .slice z.vo z.vn z.vc], .int .i64 cc]) ∧ G z.hp ∧ z.At w') ∧ Below W.heap.size W w') := by
    by_cases hM : MayP l
    · by_cases hn : newOk 0 split
      · by_cases hg : newGood least cpus
        · refine ⟨0, fun H => NewH H l split least cpus, fun a b => newH_unique, fun W bo c hW => ?_, fun W hW => ?_⟩
          · refine (pNew_ok W split least cpus bo n c l hW hM hn).mono ?_
            rintro e w' ⟨⟨h1, _⟩ | ⟨_, z, h1, h2, h3⟩, hb⟩
            · exact absurd hg h1
            · exact ⟨⟨z, h1, h2, h3⟩, hb⟩
          · refine (heapNew_ok W split least cpus ao n cap l hW hM hn).mono ?_
            rintro e w' ⟨⟨h1, _⟩ | ⟨_, z, h1, h2, h3⟩, hb⟩
            · exact absurd hg h1
            · exact ⟨⟨z, h1, h2, h3⟩, hb⟩
        · refine ⟨1, fun H => H = Hx.none.hp, fun a b h1 h2 => h1.trans h2.symm, fun W bo c hW => ?_, fun W hW => ?_⟩
          · refine (pNew_ok W split least cpus bo n c l hW hM hn).mono ?_
            rintro e w' ⟨⟨_, h1⟩ | ⟨h1, _⟩, hb⟩
            · exact ⟨⟨Hx.none, h1, rfl, none_at _⟩, hb⟩
            · exact absurd h1 hg
          · refine (heapNew_ok W split least cpus ao n cap l hW hM hn).mono ?_
            rintro e w' ⟨⟨_, h1⟩ | ⟨h1, _⟩, hb⟩
            · exact ⟨⟨Hx.none, h1, rfl, none_at _⟩, hb⟩
            · exact absurd h1 hg
      · refine ⟨1, fun H => H = Hx.none.hp, fun a b h1 h2 => h1.trans h2.symm, fun W bo c hW => ?_, fun W hW => ?_⟩
        · refine (pNew_no1 W split least cpus bo n c l hW hM ws hn).mono ?_
          rintro e w' ⟨h1, hb⟩
          exact ⟨⟨Hx.none, h1, rfl, none_at _⟩, hb⟩
        · refine (heapNew_no1 W split least cpus ao n cap l hW hM hn).mono ?_
          rintro e w' ⟨h1, hb⟩
          exact ⟨⟨Hx.none, h1, rfl, none_at _⟩, hb⟩
    · refine ⟨8, fun H => H = Hx.none.hp, fun a b h1 h2 => h1.trans h2.symm, fun W bo c hW => ?_, fun W hW => ?_⟩
      · refine (pNew_no8 W split least cpus bo n c l hW hT hM).mono ?_
        rintro e w' ⟨h1, hb⟩
        exact ⟨⟨Hx.none, h1, rfl, none_at _⟩, hb⟩
      · refine (heapNew_no8 W split least cpus ao n cap l hW hM).mono ?_
        rintro e w' ⟨h1, hb⟩
        exact ⟨⟨Hx.none, h1, rfl, none_at _⟩, hb⟩
  have B0 := Below.refl w.heap.size w
  refine sx_enter (args := [_, _, _, _]) 38 Try.func3 rfl rfl rfl ?_
  intro A f
  refine wp_seq ?_
  refine sx_list ?_
  refine l_do f rfl rfl rfl (y_assign rfl rfl) ?_; clear f A; intro A f
  refine wpList_nil ?_
  refine x_tn ?_
  refine wp_seq ?_
  refine sx_list ?_
  refine l_do f rfl rfl rfl (y_move rfl rfl) ?_; clear f A; intro A f
  refine l_opR (R := fun v W => ∃ bo c, v = .slice bo n c ∧ Regs W bo n l ∧ Below w.heap.size w W) f rfl rfl rfl (by obtain ⟨bo, c, W, h1, h2, h3⟩ := regs_copy_run _ _ ao n cap l h; exact ⟨_, W, append_exec f rfl rfl rfl h1, bo, c, rfl, h2, h3⟩) ?_
  clear f A
  rintro _ W1 ⟨bo, c, rfl, hbo, hb2⟩ A f
  replace B0 := Below.next B0 hb2
  refine l_do f rfl rfl rfl (y_move rfl rfl) ?_; clear f A; intro A f
  refine l_do f rfl rfl rfl (y_move rfl rfl) ?_; clear f A; intro A f
  refine l_do f rfl rfl rfl (y_move rfl rfl) ?_; clear f A; intro A f
  refine l_call f rfl rfl rfl (IsCall.mk' (cap := []) rfl rfl rfl) (pl rfl) (HD _ bo c hbo) ?_
  clear f A
  rintro _ W3 ⟨⟨y, rfl, ey, hy⟩, hb4⟩
  refine ⟨_, rfl, ?_⟩
  intro A f
  replace B0 := Below.next B0 hb4; replace hbo := hbo.below hb4
  refine l_do f rfl rfl rfl (y_move rfl rfl) ?_; clear f A; intro A f
  refine l_do f rfl rfl rfl (y_ext rfl rfl rfl) ?_; clear f A; intro A f
  refine l_do f rfl rfl rfl (y_ext rfl rfl rfl) ?_; clear f A; intro A f
  refine l_as (z := .agg #[.slice none 0 0, .slice none 0 0, .int .i64 0, .slice none 0 0, .slice none 0 0]) f rfl rfl rfl rfl (by kernel_rfl) rfl rfl (fun _ => rfl) (fun _ => rfl) rfl (by intro u hu; simp [Value.cells] at hu; rcases hu with rfl | rfl | rfl | rfl | rfl <;> rfl) ?_; clear f A; intro b5 W6 eb5 hb7 rb5 A f
  dsimp only [Value.cells] at rb5
  have hpb5 := hb7
  have z_B0_b5 := B0.size; rw [eb5] at z_B0_b5
  replace B0 := Below.next B0 hb7; replace hbo := hbo.below hb7; replace hy := hy.below hb7
  refine l_do f rfl rfl rfl (y_assign rfl rfl) ?_; clear f A; intro A f
  refine wpList_nil ?_
  refine x_tn ?_
  refine wp_seq ?_
  refine sx_list ?_
  refine l_do f rfl rfl rfl (y_move rfl rfl) ?_; clear f A; intro A f
  refine l_do f rfl rfl rfl (y_move rfl rfl) ?_; clear f A; intro A f
  refine l_do f rfl rfl rfl (y_move rfl rfl) ?_; clear f A; intro A f
  refine l_do f rfl rfl rfl (y_move rfl rfl) ?_; clear f A; intro A f
  refine l_call f rfl rfl rfl (IsCall.mk' (cap := []) rfl rfl rfl) (pl rfl) (HR _ (hR.below B0)) ?_
  clear f A
  rintro _ W8 ⟨⟨z, rfl, ez, hz⟩, hb9⟩
  refine ⟨_, rfl, ?_⟩
  intro A f
  replace B0 := Below.next B0 hb9; replace hbo := hbo.below hb9; replace hy := hy.below hb9; replace rb5 := row_next rb5 hb9
  refine l_do f rfl rfl rfl (y_move rfl rfl) ?_; clear f A; intro A f
  refine l_do f rfl rfl rfl (y_ext rfl rfl rfl) ?_; clear f A; intro A f
  refine l_do f rfl rfl rfl (y_ext rfl rfl rfl) ?_; clear f A; intro A f
  refine l_as (z := .agg #[.slice none 0 0, .slice none 0 0, .int .i64 0, .slice none 0 0, .slice none 0 0]) f rfl rfl rfl rfl (by kernel_rfl) rfl rfl (fun _ => rfl) (fun _ => rfl) rfl (by intro u hu; simp [Value.cells] at hu; rcases hu with rfl | rfl | rfl | rfl | rfl <;> rfl) ?_; clear f A; intro b10 W11 eb10 hb12 rb10 A f
  dsimp only [Value.cells] at rb10
  have hpb10 := hb12
  have o_b5_b10 : b5 < b10 := by have := row_lt rb5; omega
  have z_B0_b10 := B0.size; rw [eb10] at z_B0_b10
  replace B0 := Below.next B0 hb12; replace hbo := hbo.below hb12; replace hy := hy.below hb12; replace hz := hz.below hb12; replace rb5 := row_next rb5 hb12
  refine l_do f rfl rfl rfl (y_assign rfl rfl) ?_; clear f A; intro A f
  refine wpList_nil ?_
  refine x_tn ?_
  refine wp_seq ?_
  refine sx_list ?_
  refine l_do f rfl rfl rfl (y_move rfl rfl) ?_; clear f A; intro A f
  refine l_do f rfl rfl rfl (y_move rfl rfl) ?_; clear f A; intro A f
  refine l_if _ f rfl rfl rfl (y_eql rfl rfl rfl) ?_ ?_
  · clear f A; intro c13 A f
    refine l_do f rfl rfl rfl (y_move rfl rfl) ?_; clear f A; intro A f
    refine l_do f rfl rfl rfl (y_loadN (vs := [_, _, _, _, _]) rfl rfl (ag rfl) rfl (rowls (rowq rb5) _ _ ⟨rfl, rfl, rfl, rfl, rfl, trivial⟩)) ?_; clear f A; intro A f
    refine l_do f rfl rfl rfl (y_loadN (vs := [_, _, _, _, _]) rfl rfl (ag rfl) rfl (rowls (rowq rb10) _ _ ⟨rfl, rfl, rfl, rfl, rfl, trivial⟩)) ?_; clear f A; intro A f
    refine l_call f rfl rfl rfl (IsCall.mk' (cap := []) rfl rfl rfl) (pl rfl) (sameHeap_eq _ y z hy hz (hu _ _ ey ez)) ?_; clear f A; rintro _ W14 ⟨rfl, hb15⟩; refine ⟨_, rfl, ?_⟩; intro A f; replace B0 := Below.next B0 hb15; replace hbo := hbo.below hb15; replace hy := hy.below hb15; replace hz := hz.below hb15; replace rb5 := row_next rb5 hb15; replace rb10 := row_next rb10 hb15
    refine l_do f rfl rfl rfl (y_pick rfl rfl rfl) ?_; clear f A; intro A f
    refine l_do f rfl rfl rfl (y_assign rfl rfl) ?_; clear f A; intro A f
    refine wpList_nil ?_
    refine x_tn ?_
    refine wp_ret ?_
    refine x_ret1 f rfl rfl ?_
    -- return 0: c13@32
    exact ⟨rfl, B0⟩
  · intro c13; exfalso; omega


end Go.Proofs.Ytbjlbmofdnkmiaa

/-
  OWN TEXT. How an argument that is a region, a slice of regions, or two such slices (api.Boot) is opened for the walk, over whatever program.
-/
namespace Go.Proofs.Ytbjlbmofdnkmiaa.Kit
open Go Go.RowKit Go.ChangeShapes Go.WideShapes Go.ChangeAt Go.Joins Go.Deep

theorem open_regs {H : Type} {enc : TypeId × Value → H} {P : Program} {W : World} {t e : TypeId} {f0 f1 : Field} {fuel : Nat} {v : Value} {y : DataW H × List MemPlace}
    (ht : P.underlying t = some (.slice e)) (he : P.underlying e = some (.struct #[f0, f1])) (ce : P.cellsOf e = 2) (be : P.bytesOf e = 16) (o0 : f0.offset = 0) (o1 : f1.offset = 1)
    (c0 : P.cellsOf f0.type = 1) (c1 : P.cellsOf f1.type = 1) (u0 : P.underlying f0.type = some (.int .i64)) (u1 : P.underlying f1.type = some (.int .i64))
    (h : DataW.trod enc P W 0 (fun _ => true) true fuel t [v] = some y) (hs : Sized P t y.1) :
    ∃ ao n cap l, v = .slice ao n cap ∧ IsRegs W ao n cap l := by
  rcases open_slice_pairs ht he ce o0 o1 c0 c1 h with ⟨hcs, _⟩ | ⟨a, len, cap, m, fu, V0, V1, D0, D1, P0, P1, hcs, _, hl, hm, hmm, hx, hc⟩
  · simp only [List.cons.injEq, and_true] at hcs
    subst hcs
    exact ⟨none, 0, 0, [], rfl, ⟨rfl, by omega, by omega, fun _ => ⟨rfl, rfl⟩, RegsAt.nil _ _, by simp⟩⟩
  · simp only [List.cons.injEq, and_true] at hcs
    subst hcs
    simp only [if_true] at hmm
    subst hmm
    have hr := hx ▸ hs
    have hr2 := sized_sl hr ht
    rw [be] at hr2
    simp only [List.length_map, List.length_range, reachBytes] at hr2
    have hin : ∀ i, i < m → ∃ x z, V0 i = .int .i64 x ∧ V1 i = .int .i64 z ∧ (Lit.int .i64 x).wf = true ∧ (Lit.int .i64 z).wf = true := by
      intro i hi
      obtain ⟨_, _, t0, t1⟩ := hc i hi
      obtain ⟨x, e0, _, w0⟩ := DataW.trod_int u0 t0
      obtain ⟨z, e1, _, w1⟩ := DataW.trod_int u1 t1
      simp only [List.cons.injEq, and_true] at e0 e1
      exact ⟨x, z, e0, e1, w0, w1⟩
    let num : Value → Int := fun v => match v with | .int _ x => x | _ => 0
    let l : List (Int × Int) := (List.range len).map fun i => (num (V0 i), num (V1 i))
    have hlen : l.length = len := by simp [l]
    have hget : ∀ i, i < len → l.getD i (0, 0) = (num (V0 i), num (V1 i)) := by
      intro i hi
      simp [l, List.getD_eq_getElem?_getD, hi]
    refine ⟨some a, len, m, l, rfl, ⟨hlen, hl, by omega, fun h => (by cases h), ?_, ?_⟩⟩
    · intro i hi
      rw [hlen] at hi
      obtain ⟨k0, k1, _, _⟩ := hc i (by omega)
      obtain ⟨x, z, e0, e1, _, _⟩ := hin i (by omega)
      obtain ⟨b, off, spot⟩ := a
      have hspot : spot = none := by
        have := World.cell?_spot (hc 0 (by omega)).1
        simpa [Addr.add] using this
      subst hspot
      have hadd : ∀ j, (⟨b, off, none⟩ : Addr).add j = ⟨b, off + j, none⟩ := fun j => by unfold Addr.add; split <;> simp_all
      rw [hadd] at k0 k1
      refine ⟨b, off, rfl, ?_, ?_⟩
      · rw [hget i hi, k0, e0]
      · rw [hget i hi, Nat.add_assoc, k1, e1]
    · intro r hr'
      simp only [l, List.mem_map, List.mem_range] at hr'
      obtain ⟨i, hi, rfl⟩ := hr'
      obtain ⟨x, z, e0, e1, w0, w1⟩ := hin i (by omega)
      simp only [e0, e1, num]
      exact ⟨bounds_i64 w0, bounds_i64 w1⟩

theorem open_region_arg {H : Type} {enc : TypeId × Value → H} {P : Program} {W : World} {base : Nat} {e : TypeId} {f0 f1 : Field} {v : Value} {d : DataW H} {p : List MemPlace}
    (he : P.underlying e = some (.struct #[f0, f1])) (hone : oneCellFields P #[f0, f1] = true) (ce : P.cellsOf e = 2) (u0 : P.underlying f0.type = some (.int .i64)) (u1 : P.underlying f1.type = some (.int .i64))
    (hv : Value.okWide P W .any base e v) (h : DataW.Trod enc P W 0 (fun _ => true) true e v d p) :
    ∃ x z, v = .agg #[.int .i64 x, .int .i64 z] ∧ (Lit.int .i64 x).wf = true ∧ (Lit.int .i64 z).wf = true := by
  obtain ⟨v0, v1, y0, y1, m, rfl, _, _, h0, h1⟩ := open_agg2 he hone ce hv h
  obtain ⟨x, e0, _, w0⟩ := DataW.trod_int u0 h0
  obtain ⟨z, e1, _, w1⟩ := DataW.trod_int u1 h1
  simp only [List.cons.injEq, and_true] at e0 e1
  subst e0 e1
  exact ⟨x, z, rfl, w0, w1⟩

theorem open_boot_arg {H : Type} {enc : TypeId × Value → H} {P : Program} {W : World} {base : Nat} {b t e : TypeId} {g0 g1 f0 f1 : Field} {v : Value} {d : DataW H} {p : List MemPlace}
    (hb : P.underlying b = some (.struct #[g0, g1])) (hone : oneCellFields P #[g0, g1] = true) (cb : P.cellsOf b = 2) (t0 : g0.type = t) (t1 : g1.type = t)
    (ht : P.underlying t = some (.slice e)) (he : P.underlying e = some (.struct #[f0, f1])) (ce : P.cellsOf e = 2) (be : P.bytesOf e = 16) (o0 : f0.offset = 0) (o1 : f1.offset = 1)
    (c0 : P.cellsOf f0.type = 1) (c1 : P.cellsOf f1.type = 1) (u0 : P.underlying f0.type = some (.int .i64)) (u1 : P.underlying f1.type = some (.int .i64))
    (hv : Value.okWide P W .any base b v) (h : DataW.Trod enc P W 0 (fun _ => true) true b v d p) (hs : Sized P b d) :
    ∃ mo mn mc M ro rn rc R, v = .agg #[.slice mo mn mc, .slice ro rn rc] ∧ IsRegs W mo mn mc M ∧ IsRegs W ro rn rc R := by
  obtain ⟨v0, v1, y0, y1, m, rfl, rfl, _, h0, h1⟩ := open_agg2 hb hone cb hv h
  have s0 : Sized P t y0.1 := sized_field hs hb (i := 0) (by simp [t0]) rfl
  have s1 : Sized P t y1.1 := sized_field hs hb (i := 1) (by simp [t1]) rfl
  rw [t0] at h0
  rw [t1] at h1
  obtain ⟨mo, mn, mc, M, rfl, hM⟩ := open_regs ht he ce be o0 o1 c0 c1 u0 u1 h0 s0
  obtain ⟨ro, rn, rc, R, rfl, hR⟩ := open_regs ht he ce be o0 o1 c0 c1 u0 u1 h1 s1
  exact ⟨mo, mn, mc, M, ro, rn, rc, R, rfl, hM, hR⟩

end Go.Proofs.Ytbjlbmofdnkmiaa.Kit

/-
  OWN TEXT. How an argument that is a slice of regions is opened for the walk, over whatever program.
-/
namespace Go.Proofs.Ytbjlbmofdnkmiaa.Kit
open Go Go.RowKit Go.ChangeShapes Go.WideShapes Go.ChangeAt Go.Joins Go.Deep

theorem open_regs_arg {H : Type} {enc : TypeId × Value → H} {P : Program} {W : World} {base : Nat} {t e : TypeId} {f0 f1 : Field} {v : Value} {d : DataW H} {p : List MemPlace}
    (ht : P.underlying t = some (.slice e)) (he : P.underlying e = some (.struct #[f0, f1])) (ce : P.cellsOf e = 2) (be : P.bytesOf e = 16) (o0 : f0.offset = 0) (o1 : f1.offset = 1)
    (c0 : P.cellsOf f0.type = 1) (c1 : P.cellsOf f1.type = 1) (u0 : P.underlying f0.type = some (.int .i64)) (u1 : P.underlying f1.type = some (.int .i64))
    (hv : Value.okWide P W .any base t v) (h : DataW.Trod enc P W 0 (fun _ => true) true t v d p) (hs : Sized P t d) :
    ∃ ao n cap l, v = .slice ao n cap ∧ IsRegs W ao n cap l := by
  obtain ⟨ao, n, cap, rfl⟩ := okWide_slice ht hv
  obtain ⟨fuel, hf⟩ := h
  exact open_regs (y := (d, p)) ht he ce be o0 o1 c0 c1 u0 u1 hf hs

end Go.Proofs.Ytbjlbmofdnkmiaa.Kit
