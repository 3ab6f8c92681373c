/-
  OWN TEXT. How an argument that is a region, a slice of regions, or two such slices (api.Boot) is opened for the walk, over whatever program.
-/
import Derived.Test.YtfogdgnlbgoakacSized
import Derived.Test.YtfogdgnlbgoakacRKit
namespace Go.Proofs.Ytfogdgnlbgoakac.Kit
open Go Go.RowKit Go.ChangeShapes Go.WideShapes Go.ChangeAt Go.Joins Go.Deep

theorem open_regs {H : Type} {enc : TypeId × Value → H} {P : Program} {W : World} {t e : TypeId} {f0 f1 : Field} {fuel : Nat} {v : Value} {y : DataW H × List MemPlace}
    (ht : P.underlying t = some (.slice e)) (he : P.underlying e = some (.struct #[f0, f1])) (ce : P.cellsOf e = 2) (be : P.bytesOf e = 16) (o0 : f0.offset = 0) (o1 : f1.offset = 1)
    (c0 : P.cellsOf f0.type = 1) (c1 : P.cellsOf f1.type = 1) (u0 : P.underlying f0.type = some (.int .i64)) (u1 : P.underlying f1.type = some (.int .i64))
    (h : DataW.trod enc P W 0 (fun _ => true) true fuel t [v] = some y) (hs : Sized P t y.1) :
    ∃ ao n cap l, v = .slice ao n cap ∧ IsRegs W ao n cap l := by
  rcases open_slice_pairs ht he ce o0 o1 c0 c1 h with ⟨hcs, _⟩ | ⟨a, len, cap, m, fu, V0, V1, D0, D1, P0, P1, hcs, _, hl, hm, hmm, hx, hc⟩
  · simp only [List.cons.injEq, and_true] at hcs
    subst hcs
    exact ⟨none, 0, 0, [], rfl, ⟨rfl, by omega, by omega, fun _ => ⟨rfl, rfl⟩, RegsAt.nil _ _, by simp⟩⟩
  · simp only [List.cons.injEq, and_true] at hcs
    subst hcs
    simp only [if_true] at hmm
    subst hmm
    have hr := hx ▸ hs
    have hr2 := sized_sl hr ht
    rw [be] at hr2
    simp only [List.length_map, List.length_range, reachBytes] at hr2
    have hin : ∀ i, i < m → ∃ x z, V0 i = .int .i64 x ∧ V1 i = .int .i64 z ∧ (Lit.int .i64 x).wf = true ∧ (Lit.int .i64 z).wf = true := by
      intro i hi
      obtain ⟨_, _, t0, t1⟩ := hc i hi
      obtain ⟨x, e0, _, w0⟩ := DataW.trod_int u0 t0
      obtain ⟨z, e1, _, w1⟩ := DataW.trod_int u1 t1
      simp only [List.cons.injEq, and_true] at e0 e1
      exact ⟨x, z, e0, e1, w0, w1⟩
    let num : Value → Int := fun v => match v with | .int _ x => x | _ => 0
    let l : List (Int × Int) := (List.range len).map fun i => (num (V0 i), num (V1 i))
    have hlen : l.length = len := by simp [l]
    have hget : ∀ i, i < len → l.getD i (0, 0) = (num (V0 i), num (V1 i)) := by
      intro i hi
      simp [l, List.getD_eq_getElem?_getD, hi]
    refine ⟨some a, len, m, l, rfl, ⟨hlen, hl, by omega, fun h => (by cases h), ?_, ?_⟩⟩
    · intro i hi
      rw [hlen] at hi
      obtain ⟨k0, k1, _, _⟩ := hc i (by omega)
      obtain ⟨x, z, e0, e1, _, _⟩ := hin i (by omega)
      obtain ⟨b, off, spot⟩ := a
      have hspot : spot = none := by
        have := World.cell?_spot (hc 0 (by omega)).1
        simpa [Addr.add] using this
      subst hspot
      have hadd : ∀ j, (⟨b, off, none⟩ : Addr).add j = ⟨b, off + j, none⟩ := fun j => by unfold Addr.add; split <;> simp_all
      rw [hadd] at k0 k1
      refine ⟨b, off, rfl, ?_, ?_⟩
      · rw [hget i hi, k0, e0]
      · rw [hget i hi, Nat.add_assoc, k1, e1]
    · intro r hr'
      simp only [l, List.mem_map, List.mem_range] at hr'
      obtain ⟨i, hi, rfl⟩ := hr'
      obtain ⟨x, z, e0, e1, w0, w1⟩ := hin i (by omega)
      simp only [e0, e1, num]
      exact ⟨bounds_i64 w0, bounds_i64 w1⟩

theorem open_region_arg {H : Type} {enc : TypeId × Value → H} {P : Program} {W : World} {base : Nat} {e : TypeId} {f0 f1 : Field} {v : Value} {d : DataW H} {p : List MemPlace}
    (he : P.underlying e = some (.struct #[f0, f1])) (hone : oneCellFields P #[f0, f1] = true) (ce : P.cellsOf e = 2) (u0 : P.underlying f0.type = some (.int .i64)) (u1 : P.underlying f1.type = some (.int .i64))
    (hv : Value.okWide P W .any base e v) (h : DataW.Trod enc P W 0 (fun _ => true) true e v d p) :
    ∃ x z, v = .agg #[.int .i64 x, .int .i64 z] ∧ (Lit.int .i64 x).wf = true ∧ (Lit.int .i64 z).wf = true := by
  obtain ⟨v0, v1, y0, y1, m, rfl, _, _, h0, h1⟩ := open_agg2 he hone ce hv h
  obtain ⟨x, e0, _, w0⟩ := DataW.trod_int u0 h0
  obtain ⟨z, e1, _, w1⟩ := DataW.trod_int u1 h1
  simp only [List.cons.injEq, and_true] at e0 e1
  subst e0 e1
  exact ⟨x, z, rfl, w0, w1⟩

theorem open_boot_arg {H : Type} {enc : TypeId × Value → H} {P : Program} {W : World} {base : Nat} {b t e : TypeId} {g0 g1 f0 f1 : Field} {v : Value} {d : DataW H} {p : List MemPlace}
    (hb : P.underlying b = some (.struct #[g0, g1])) (hone : oneCellFields P #[g0, g1] = true) (cb : P.cellsOf b = 2) (t0 : g0.type = t) (t1 : g1.type = t)
    (ht : P.underlying t = some (.slice e)) (he : P.underlying e = some (.struct #[f0, f1])) (ce : P.cellsOf e = 2) (be : P.bytesOf e = 16) (o0 : f0.offset = 0) (o1 : f1.offset = 1)
    (c0 : P.cellsOf f0.type = 1) (c1 : P.cellsOf f1.type = 1) (u0 : P.underlying f0.type = some (.int .i64)) (u1 : P.underlying f1.type = some (.int .i64))
    (hv : Value.okWide P W .any base b v) (h : DataW.Trod enc P W 0 (fun _ => true) true b v d p) (hs : Sized P b d) :
    ∃ mo mn mc M ro rn rc R, v = .agg #[.slice mo mn mc, .slice ro rn rc] ∧ IsRegs W mo mn mc M ∧ IsRegs W ro rn rc R := by
  obtain ⟨v0, v1, y0, y1, m, rfl, rfl, _, h0, h1⟩ := open_agg2 hb hone cb hv h
  have s0 : Sized P t y0.1 := sized_field hs hb (i := 0) (by simp [t0]) rfl
  have s1 : Sized P t y1.1 := sized_field hs hb (i := 1) (by simp [t1]) rfl
  rw [t0] at h0
  rw [t1] at h1
  obtain ⟨mo, mn, mc, M, rfl, hM⟩ := open_regs ht he ce be o0 o1 c0 c1 u0 u1 h0 s0
  obtain ⟨ro, rn, rc, R, rfl, hR⟩ := open_regs ht he ce be o0 o1 c0 c1 u0 u1 h1 s1
  exact ⟨mo, mn, mc, M, ro, rn, rc, R, rfl, hM, hR⟩

end Go.Proofs.Ytfogdgnlbgoakac.Kit
