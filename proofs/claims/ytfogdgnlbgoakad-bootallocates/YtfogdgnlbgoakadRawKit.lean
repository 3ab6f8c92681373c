/-
  OWN TEXT. Slices of four numbers each (paddockkeep.Raw) over whatever program.
-/
import Derived.Test.YtfogdgnlbgoakadSized
namespace Go.Proofs.Ytfogdgnlbgoakad.Kit
open Go Go.RowKit Go.ChangeShapes Go.WideShapes Go.ChangeAt Go.Joins Go.Deep

/-- Four numbers. -/
structure Raw4 where
  k : Int
  a : Int
  b : Int
  c : Int

def Raw4.zero : Raw4 := ⟨0, 0, 0, 0⟩

/-- Each of them fits. -/
structure Raw4.Fits (r : Raw4) : Prop where
  k : (Lit.int .i64 r.k).wf = true
  a : (Lit.int .i64 r.a).wf = true
  b : (Lit.int .i64 r.b).wf = true
  c : (Lit.int .i64 r.c).wf = true

/-- The cells from 'ao' on hold the numbers 'l'. -/
def RawsAt (w : World) (ao : Option Addr) (l : List Raw4) : Prop :=
  ∀ i, i < l.length → ∃ b off, ao = some ⟨b, off, none⟩ ∧ w.cell? ⟨b, off + i * 4, none⟩ = some (.int .i64 (l.getD i .zero).k) ∧ w.cell? ⟨b, off + i * 4 + 1, none⟩ = some (.int .i64 (l.getD i .zero).a) ∧
    w.cell? ⟨b, off + i * 4 + 2, none⟩ = some (.int .i64 (l.getD i .zero).b) ∧ w.cell? ⟨b, off + i * 4 + 3, none⟩ = some (.int .i64 (l.getD i .zero).c)

theorem RawsAt.below {w w' : World} {ao : Option Addr} {l : List Raw4} (h : RawsAt w ao l) (hb : Below w.heap.size w w') : RawsAt w' ao l := by
  intro i hi
  obtain ⟨b, off, ha, h1, h2, h3, h4⟩ := h i hi
  exact ⟨b, off, ha, keep h1 hb, keep h2 hb, keep h3 hb, keep h4 hb⟩

theorem RawsAt.nil (w : World) (ao : Option Addr) : RawsAt w ao [] := fun i hi => absurd hi (by simp)

/-- What the walk is told of such a slice that came in. -/
structure IsRaws (w : World) (ao : Option Addr) (n cap : Nat) (l : List Raw4) : Prop where
  len : l.length = n
  le : n ≤ cap
  reach : cap * 32 ≤ 140737488351232
  at_ : RawsAt w ao l
  wf : ∀ i, i < n → (l.getD i .zero).Fits

theorem open_raws_arg {H : Type} {enc : TypeId × Value → H} {P : Program} {W : World} {base : Nat} {t e : TypeId} {f0 f1 f2 f3 : Field} {v : Value} {d : DataW H} {p : List MemPlace}
    (ht : P.underlying t = some (.slice e)) (he : P.underlying e = some (.struct #[f0, f1, f2, f3])) (ce : P.cellsOf e = 4) (be : P.bytesOf e = 32)
    (hone : oneCellFields P #[f0, f1, f2, f3] = true) (u0 : P.underlying f0.type = some (.int .i64)) (u1 : P.underlying f1.type = some (.int .i64)) (u2 : P.underlying f2.type = some (.int .i64)) (u3 : P.underlying f3.type = some (.int .i64))
    (hv : Value.okWide P W .any base t v) (h : DataW.Trod enc P W 0 (fun _ => true) true t v d p) (hs : Sized P t d) :
    ∃ ao n cap l, v = .slice ao n cap ∧ IsRaws W ao n cap l := by
  obtain ⟨ao, n, cap, rfl⟩ := okWide_slice ht hv
  obtain ⟨fuel, hf⟩ := h
  rcases open_slice ht hf with ⟨hcs, _⟩ | ⟨a, len, cap', m, fu, D, Pl, hcs, _, hl, hm, hmm, hx, hc⟩
  · simp [Value.cells] at hcs
    obtain ⟨rfl, rfl, rfl⟩ := hcs
    exact ⟨none, 0, 0, [], rfl, ⟨rfl, by omega, by omega, RawsAt.nil _ _, fun i hi => by omega⟩⟩
  · simp [Value.cells] at hcs
    obtain ⟨rfl, rfl, rfl⟩ := hcs
    simp only [if_true] at hmm
    subst hmm
    simp only [Prod.mk.injEq] at hx
    have hr := hx.1 ▸ hs
    have hr2 := sized_sl hr ht
    rw [be] at hr2
    simp only [List.length_map, List.length_range, reachBytes] at hr2
    rw [ce] at hc
    obtain ⟨o0, k0⟩ := hone_of hone 0 f0 rfl
    obtain ⟨o1, k1⟩ := hone_of hone 1 f1 rfl
    obtain ⟨o2, k2⟩ := hone_of hone 2 f2 rfl
    obtain ⟨o3, k3⟩ := hone_of hone 3 f3 rfl
    have each : ∀ i, i < m → ∃ r : Raw4, r.Fits ∧ W.cell? (a.add (i * 4)) = some (.int .i64 r.k) ∧ W.cell? (a.add (i * 4 + 1)) = some (.int .i64 r.a) ∧ W.cell? (a.add (i * 4 + 2)) = some (.int .i64 r.b) ∧ W.cell? (a.add (i * 4 + 3)) = some (.int .i64 r.c) := by
      intro i hi
      obtain ⟨cs', h1, h2⟩ := hc i hi
      obtain ⟨_, hlen, hcell⟩ := World.cells?_some h1
      obtain ⟨y0, y1, y2, y3, q, _, _, g0, g1, g2, g3⟩ := trod_struct4 he h2
      match cs', hlen with
      | [v0, v1, v2, v3], _ =>
        simp [o0, k0] at g0
        simp [o1, k1] at g1
        simp [o2, k2] at g2
        simp [o3, k3] at g3
        obtain ⟨x0, e0, _, w0⟩ := DataW.trod_int u0 g0
        obtain ⟨x1, e1, _, w1⟩ := DataW.trod_int u1 g1
        obtain ⟨x2, e2, _, w2⟩ := DataW.trod_int u2 g2
        obtain ⟨x3, e3, _, w3⟩ := DataW.trod_int u3 g3
        simp only [List.cons.injEq, and_true] at e0 e1 e2 e3
        subst e0 e1 e2 e3
        have c0 := hcell 0 (by omega)
        have c1 := hcell 1 (by omega)
        have c2 := hcell 2 (by omega)
        have c3 := hcell 3 (by omega)
        rw [add_add] at c0 c1 c2 c3
        exact ⟨⟨x0, x1, x2, x3⟩, ⟨w0, w1, w2, w3⟩, by simpa using c0, by simpa using c1, by simpa using c2, by simpa using c3⟩
    have inh : Inhabited Raw4 := ⟨Raw4.zero⟩
    obtain ⟨g, hg⟩ := choose_lt each
    have hget : ∀ i, i < n → ((List.range n).map g).getD i .zero = g i := by
      intro i hi
      simp [List.getD_eq_getElem?_getD, hi]
    refine ⟨some a, n, m, (List.range n).map g, rfl, ⟨by simp, hl, by omega, ?_, fun i hi => by rw [hget i hi]; exact (hg i (by omega)).1⟩⟩
    intro i hi
    have hi' : i < n := by simpa using hi
    obtain ⟨_, d0, d1, d2, d3⟩ := hg i (by omega)
    obtain ⟨b, off, spot⟩ := a
    have hspot : spot = none := by
      have := World.cell?_spot (hg 0 (by omega)).2.1
      simpa [Addr.add] using this
    subst hspot
    have hadd : ∀ j, (⟨b, off, none⟩ : Addr).add j = ⟨b, off + j, none⟩ := fun j => by unfold Addr.add; split <;> simp_all
    rw [hadd] at d0 d1 d2 d3
    rw [hget i hi']
    exact ⟨b, off, rfl, d0, by rw [Nat.add_assoc]; exact d1, by rw [Nat.add_assoc]; exact d2, by rw [Nat.add_assoc]; exact d3⟩

end Go.Proofs.Ytfogdgnlbgoakad.Kit
