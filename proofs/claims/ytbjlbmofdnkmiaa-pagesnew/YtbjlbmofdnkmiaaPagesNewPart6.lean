/-
  OWN TEXTS, bundled: ZArgs, HArgs, HBase, ZcCopy.
-/
import Derived.Test.YtbjlbmofdnkmiaaPagesNewPart5
import Derived.Test.YtbjlbmofdnkmiaaPagesNewPart4
import Derived.Laws.MakeOwn

/-
  OWN TEXT. How an argument that is a zone (api.Zone) is opened for the walk, over whatever program.
-/
namespace Go.Proofs.Ytbjlbmofdnkmiaa.Kit
open Go Go.RowKit Go.ChangeShapes Go.WideShapes Go.ChangeAt Go.Joins Go.Deep

/-- The numbers are words. -/
structure Bk.Fits (b : Bk) : Prop where
  a : (Lit.int .i64 b.a).wf = true
  o : (Lit.int .i64 b.o).wf = true
  t : (Lit.int .i64 b.t).wf = true

/-- What the walk is told of a slice of blocks that came in. -/
structure IsBlks (w : World) (ao : Option Addr) (n cap : Nat) (l : List Bk) : Prop where
  len : l.length = n
  le : n ≤ cap
  reach : cap * 24 ≤ 140737488351232
  at_ : BlksAt w ao l
  wf : ∀ i, i < n → (l.getD i .zero).Fits

/-- What the walk is told of a zone that came in. -/
structure IsZone (w : World) (fo : Option Addr) (fn fc : Nat) (to_ : Option Addr) (tn tc : Nat) (z : Zn) : Prop where
  fr : IsBlks w fo fn fc z.free
  ty : IsInts w to_ tn tc z.types
  wf : (Lit.int .i64 z.f).wf = true
  wt : (Lit.int .i64 z.t).wf = true

theorem IsZone.zn {w : World} {fo : Option Addr} {fn fc : Nat} {to_ : Option Addr} {tn tc : Nat} {z : Zn} (h : IsZone w fo fn fc to_ tn tc z) : ZnAt w fo fn to_ tn z :=
  ⟨⟨h.fr.len, by have := h.fr.reach; have := h.fr.le; omega, h.fr.at_⟩, ⟨h.ty.len, by have := h.ty.reach; have := h.ty.le; omega, h.ty.at_⟩⟩

theorem open_blks {H : Type} {enc : TypeId × Value → H} {P : Program} {W : World} {t e : TypeId} {f0 f1 f2 : Field} {fuel : Nat} {v : Value} {y : DataW H × List MemPlace}
    (ht : P.underlying t = some (.slice e)) (he : P.underlying e = some (.struct #[f0, f1, f2])) (ce : P.cellsOf e = 3) (be : P.bytesOf e = 24)
    (hone : oneCellFields P #[f0, f1, f2] = true) (u0 : P.underlying f0.type = some (.int .i64)) (u1 : P.underlying f1.type = some (.int .i64)) (u2 : P.underlying f2.type = some (.int .i64))
    (hf : DataW.trod enc P W 0 (fun _ => true) true fuel t [v] = some y) (hs : Sized P t y.1) :
    ∃ ao n cap l, v = .slice ao n cap ∧ IsBlks W ao n cap l := by
  rcases open_slice ht hf with ⟨hcs, _⟩ | ⟨a, n, m0, m, fu, D, Pl, hcs, _, hl, hm, hmm, hx, hc⟩
  · simp only [List.cons.injEq, and_true] at hcs
    subst hcs
    exact ⟨none, 0, 0, [], rfl, ⟨rfl, by omega, by omega, BlksAt.nil _ _, fun i hi => by omega⟩⟩
  · simp only [List.cons.injEq, and_true] at hcs
    subst hcs
    simp only [if_true] at hmm
    subst hmm
    have hr := hx ▸ hs
    have hr2 := sized_sl hr ht
    rw [be] at hr2
    simp only [List.length_map, List.length_range, reachBytes] at hr2
    rw [ce] at hc
    obtain ⟨o0, k0⟩ := hone_of hone 0 f0 rfl
    obtain ⟨o1, k1⟩ := hone_of hone 1 f1 rfl
    obtain ⟨o2, k2⟩ := hone_of hone 2 f2 rfl
    have each : ∀ i, i < m → ∃ r : Bk, r.Fits ∧ W.cell? (a.add (i * 3)) = some (.int .i64 r.a) ∧ W.cell? (a.add (i * 3 + 1)) = some (.int .i64 r.o) ∧ W.cell? (a.add (i * 3 + 2)) = some (.int .i64 r.t) := by
      intro i hi
      obtain ⟨cs', h1, h2⟩ := hc i hi
      obtain ⟨_, hlen, hcell⟩ := World.cells?_some h1
      obtain ⟨y0, y1, y2, q, _, _, g0, g1, g2⟩ := trod_struct3 he h2
      match cs', hlen with
      | [v0, v1, v2], _ =>
        simp [o0, k0] at g0
        simp [o1, k1] at g1
        simp [o2, k2] at g2
        obtain ⟨x0, e0, _, w0⟩ := DataW.trod_int u0 g0
        obtain ⟨x1, e1, _, w1⟩ := DataW.trod_int u1 g1
        obtain ⟨x2, e2, _, w2⟩ := DataW.trod_int u2 g2
        simp only [List.cons.injEq, and_true] at e0 e1 e2
        subst e0 e1 e2
        have c0 := hcell 0 (by omega)
        have c1 := hcell 1 (by omega)
        have c2 := hcell 2 (by omega)
        rw [add_add] at c0 c1 c2
        exact ⟨⟨x0, x1, x2⟩, ⟨w0, w1, w2⟩, by simpa using c0, by simpa using c1, by simpa using c2⟩
    have inh : Inhabited Bk := ⟨Bk.zero⟩
    obtain ⟨g, hg⟩ := choose_lt each
    have hget : ∀ i, i < n → ((List.range n).map g).getD i .zero = g i := by
      intro i hi
      simp [List.getD_eq_getElem?_getD, hi]
    refine ⟨some a, n, m, (List.range n).map g, rfl, ⟨by simp, hl, by omega, ?_, fun i hi => by rw [hget i hi]; exact (hg i (by omega)).1⟩⟩
    intro i hi
    have hi' : i < n := by simpa using hi
    obtain ⟨_, d0, d1, d2⟩ := hg i (by omega)
    obtain ⟨b, off, spot⟩ := a
    have hspot : spot = none := by
      have := World.cell?_spot (hg 0 (by omega)).2.1
      simpa [Addr.add] using this
    subst hspot
    have hadd : ∀ j, (⟨b, off, none⟩ : Addr).add j = ⟨b, off + j, none⟩ := fun j => by unfold Addr.add; split <;> simp_all
    rw [hadd] at d0 d1 d2
    rw [hget i hi']
    exact ⟨b, off, rfl, d0, by rw [Nat.add_assoc]; exact d1, by rw [Nat.add_assoc]; exact d2⟩

theorem open_ints_in {H : Type} {enc : TypeId × Value → H} {P : Program} {W : World} {t e : TypeId} {fuel : Nat} {v : Value} {y : DataW H × List MemPlace}
    (ht : P.underlying t = some (.slice e)) (he : P.underlying e = some (.int .i64)) (hc : P.cellsOf e = 1) (be : P.bytesOf e = 8)
    (hf : DataW.trod enc P W 0 (fun _ => true) true fuel t [v] = some y) (hs : Sized P t y.1) :
    ∃ ao n cap xs, v = .slice ao n cap ∧ IsInts W ao n cap xs := by
  rcases open_ints ht he hc hf with ⟨hcs, _⟩ | ⟨x, n, cap, zs, hcs, _, hl, hm, hz, hx, hcell, _⟩
  · simp only [List.cons.injEq, and_true] at hcs
    subst hcs
    exact ⟨none, 0, 0, [], rfl, ⟨rfl, by omega, by omega, fun _ => ⟨rfl, rfl⟩, IntsAt.nil _ _⟩⟩
  · simp only [List.cons.injEq, and_true] at hcs
    subst hcs
    simp only [if_true] at hz
    have hr := hx ▸ hs
    have hr2 := sized_sl hr ht
    rw [be] at hr2
    simp only [lits, List.length_map, List.length_take, List.length_drop, reachBytes] at hr2
    have hr' : cap * 8 ≤ 140737488351232 := by omega
    refine ⟨some x, n, cap, zs.take n, rfl, ⟨by simp; omega, hl, hr', fun h => (by cases h), ?_⟩⟩
    intro i hi
    have hi' : i < n := by simp at hi; omega
    have hci := hcell i (by omega)
    obtain ⟨b, off, spot⟩ := x
    have hspot : spot = none := by
      by_cases h0 : i = 0
      · subst h0; simpa [Addr.add] using World.cell?_spot hci
      · have := World.cell?_spot (hcell 0 (by omega)); simpa [Addr.add] using this
    subst hspot
    refine ⟨b, off, rfl, ?_⟩
    have hadd : (⟨b, off, none⟩ : Addr).add i = ⟨b, off + i, none⟩ := by unfold Addr.add; split <;> simp_all
    rw [hadd] at hci
    rw [hci]
    simp [List.getD_eq_getElem?_getD, hi']

theorem open_zone_arg {H : Type} {enc : TypeId × Value → H} {P : Program} {W : World} {base : Nat} {zt t e u i : TypeId} {g0 g1 g2 g3 f0 f1 f2 : Field} {v : Value} {d : DataW H} {p : List MemPlace}
    (hb : P.underlying zt = some (.struct #[g0, g1, g2, g3])) (hone : oneCellFields P #[g0, g1, g2, g3] = true) (cb : P.cellsOf zt = 4) (t2 : g2.type = t) (t3 : g3.type = u)
    (ht : P.underlying t = some (.slice e)) (he : P.underlying e = some (.struct #[f0, f1, f2])) (ce : P.cellsOf e = 3) (be : P.bytesOf e = 24) (hone2 : oneCellFields P #[f0, f1, f2] = true)
    (u0 : P.underlying f0.type = some (.int .i64)) (u1 : P.underlying f1.type = some (.int .i64)) (u2 : P.underlying f2.type = some (.int .i64))
    (hu : P.underlying u = some (.slice i)) (hi : P.underlying i = some (.int .i64)) (ci : P.cellsOf i = 1) (bi : P.bytesOf i = 8)
    (w0 : P.underlying g0.type = some (.int .i64)) (w1 : P.underlying g1.type = some (.int .i64))
    (hv : Value.okWide P W .any base zt v) (h : DataW.Trod enc P W 0 (fun _ => true) true zt v d p) (hs : Sized P zt d) :
    ∃ f t fo fn fc to_ tn tc fr ty, v = .agg #[.int .i64 f, .int .i64 t, .slice fo fn fc, .slice to_ tn tc] ∧ IsZone W fo fn fc to_ tn tc ⟨f, t, fr, ty⟩ := by
  obtain ⟨v0, v1, v2, v3, y0, y1, y2, y3, m, rfl, rfl, _, h0, h1, h2, h3⟩ := open_agg4 hb hone cb hv h
  have s2 : Sized P t y2.1 := sized_field hs hb (i := 2) (by simp [t2]) rfl
  have s3 : Sized P u y3.1 := sized_field hs hb (i := 3) (by simp [t3]) rfl
  rw [t2] at h2
  rw [t3] at h3
  obtain ⟨x, e0, _, f0w⟩ := DataW.trod_int w0 h0
  obtain ⟨z, e1, _, f1w⟩ := DataW.trod_int w1 h1
  simp only [List.cons.injEq, and_true] at e0 e1
  subst e0 e1
  obtain ⟨fo, fn, fc, fr, rfl, hF⟩ := open_blks ht he ce be hone2 u0 u1 u2 h2 s2
  obtain ⟨to_, tn, tc, ty, rfl, hT⟩ := open_ints_in hu hi ci bi h3 s3
  exact ⟨x, z, fo, fn, fc, to_, tn, tc, fr, ty, rfl, ⟨hF, hT, f0w, f1w⟩⟩

/-- The numbers of a zone are words. -/
structure ZFits (z : Zn) : Prop where
  f : (Lit.int .i64 z.f).wf = true
  t : (Lit.int .i64 z.t).wf = true
  fr : ∀ i, i < z.free.length → (z.free.getD i .zero).Fits

theorem IsZone.fits {w : World} {fo : Option Addr} {fn fc : Nat} {to_ : Option Addr} {tn tc : Nat} {z : Zn} (h : IsZone w fo fn fc to_ tn tc z) : ZFits z := ⟨h.wf, h.wt, fun i hi => h.fr.wf i (by have := h.fr.len; omega)⟩

end Go.Proofs.Ytbjlbmofdnkmiaa.Kit

/-
  OWN TEXT. How an argument that is a heap of pages (api.Heap) is opened for the walk, over whatever program.
-/
namespace Go.Proofs.Ytbjlbmofdnkmiaa.Kit
open Go Go.RowKit Go.ChangeShapes Go.WideShapes Go.ChangeAt Go.Joins Go.Deep

theorem sized_elem {H : Type} {P : Program} {t e : TypeId} {elems spare : List (DataW H)} {d : DataW H} (h : Sized P t (.slice elems spare)) (ht : P.underlying t = some (.slice e)) (hd : d ∈ elems) : Sized P e d := by
  have hall : ∀ (l : List (DataW H)), d ∈ l → ∀ n ∈ d.weights P e, n ∈ DataW.weightsAll P e l := by
    intro l
    induction l with
    | nil => intro h; cases h
    | cons x l ih =>
      intro hx n hn
      simp only [DataW.weightsAll, List.mem_append]
      rcases List.mem_cons.1 hx with rfl | hx
      · exact .inl hn
      · exact .inr (ih hx n hn)
  intro n hn
  apply h
  simp only [DataW.weights, ht, List.mem_cons, List.mem_append]
  exact .inr (.inl (hall _ hd n hn))

/-- The numbers of a zone are words. -/
structure Lc.Fits (x : Lc) : Prop where
  c : (Lit.int .i64 x.l.c).wf = true
  z : (Lit.int .i64 x.l.z).wf = true
  t : (Lit.int .i64 x.l.t).wf = true

/-- What the walk is told of a heap that came in. -/
structure IsHeap (w : World) (x : Hx) : Prop where
  at_ : x.At w
  zf : ∀ z ∈ x.zs, ZFits z.z
  lf : ∀ l ∈ x.ls, l.Fits
  vf : ∀ i, i < x.vn → (x.live.getD i .zero).Fits
  cf : (Lit.int .i64 x.cpus).wf = true

theorem add_none {b off j : Nat} : (⟨b, off, none⟩ : Addr).add j = ⟨b, off + j, none⟩ := by unfold Addr.add; split <;> simp_all

section
variable {H : Type} {enc : TypeId × Value → H} {P : Program} {W : World} {fuel : Nat} {v : Value} {y : DataW H × List MemPlace}
theorem open_zones {t e zt bt u i : TypeId} {g0 g1 g2 g3 f0 f1 f2 : Field}
    (ht : P.underlying t = some (.slice zt)) (hb : P.underlying zt = some (.struct #[g0, g1, g2, g3])) (hone : oneCellFields P #[g0, g1, g2, g3] = true) (cb : P.cellsOf zt = 4) (bb : P.bytesOf zt = 64) (t2 : g2.type = bt) (t3 : g3.type = u)
    (hbt : P.underlying bt = some (.slice e)) (he : P.underlying e = some (.struct #[f0, f1, f2])) (ce : P.cellsOf e = 3) (be : P.bytesOf e = 24) (hone2 : oneCellFields P #[f0, f1, f2] = true)
    (u0 : P.underlying f0.type = some (.int .i64)) (u1 : P.underlying f1.type = some (.int .i64)) (u2 : P.underlying f2.type = some (.int .i64))
    (hu : P.underlying u = some (.slice i)) (hi : P.underlying i = some (.int .i64)) (ci : P.cellsOf i = 1) (bi : P.bytesOf i = 8)
    (w0 : P.underlying g0.type = some (.int .i64)) (w1 : P.underlying g1.type = some (.int .i64))
    (hf : DataW.trod enc P W 0 (fun _ => true) true fuel t [v] = some y) (hs : Sized P t y.1) :
    ∃ ao n cap l, v = .slice ao n cap ∧ Zons W ao n l ∧ ∀ x ∈ l, ZFits x.z := by
  rcases open_slice ht hf with ⟨hcs, _⟩ | ⟨a, n, m0, m, fu, D, Pl, hcs, _, hl, hm, hmm, hx, hc⟩
  · simp only [List.cons.injEq, and_true] at hcs
    subst hcs
    exact ⟨none, 0, 0, [], rfl, Zons.nil _, fun _ h => by cases h⟩
  · simp only [List.cons.injEq, and_true] at hcs
    subst hcs
    simp only [if_true] at hmm
    subst hmm
    have hr := hx ▸ hs
    have hr2 := sized_sl hr ht
    rw [bb] at hr2
    simp only [List.length_map, List.length_range, reachBytes] at hr2
    rw [cb] at hc
    obtain ⟨o0, k0⟩ := hone_of hone 0 g0 rfl
    obtain ⟨o1, k1⟩ := hone_of hone 1 g1 rfl
    obtain ⟨o2, k2⟩ := hone_of hone 2 g2 rfl
    obtain ⟨o3, k3⟩ := hone_of hone 3 g3 rfl
    have each : ∀ i, i < n → ∃ r : Zc, r.At W ∧ ZFits r.z ∧ W.cell? (a.add (i * 4)) = some r.q.a ∧ W.cell? (a.add (i * 4 + 1)) = some r.q.b ∧ W.cell? (a.add (i * 4 + 2)) = some r.q.c ∧ W.cell? (a.add (i * 4 + 3)) = some r.q.d := by
      intro i hi
      obtain ⟨cs', h1, h2⟩ := hc i (by omega)
      obtain ⟨_, hlen, hcell⟩ := World.cells?_some h1
      obtain ⟨y0, y1, y2, y3, q, hD, _, q0, q1, q2, q3⟩ := trod_struct4 hb h2
      have hse : Sized P zt (D i) := sized_elem hr ht (by rw [List.mem_map]; exact ⟨i, List.mem_range.2 hi, rfl⟩)
      simp only [Prod.mk.injEq] at hD
      rw [hD.1] at hse
      have s2 : Sized P bt y2.1 := sized_field hse hb (i := 2) (by simp [t2]) rfl
      have s3 : Sized P u y3.1 := sized_field hse hb (i := 3) (by simp [t3]) rfl
      match cs', hlen with
      | [v0, v1, v2, v3], _ =>
        simp [o0, k0] at q0
        simp [o1, k1] at q1
        simp [o2, k2] at q2
        simp [o3, k3] at q3
        rw [t2] at q2
        rw [t3] at q3
        obtain ⟨x0, e0, _, f0w⟩ := DataW.trod_int w0 q0
        obtain ⟨x1, e1, _, f1w⟩ := DataW.trod_int w1 q1
        simp only [List.cons.injEq, and_true] at e0 e1
        subst e0 e1
        obtain ⟨fo, fn, fc, fr, rfl, hF⟩ := open_blks hbt he ce be hone2 u0 u1 u2 q2 s2
        obtain ⟨to_, tn, tc, ty, rfl, hT⟩ := open_ints_in hu ‹_› ci bi q3 s3
        have c0 := hcell 0 (by omega)
        have c1 := hcell 1 (by omega)
        have c2 := hcell 2 (by omega)
        have c3 := hcell 3 (by omega)
        rw [add_add] at c0 c1 c2 c3
        have hz : IsZone W fo fn fc to_ tn tc ⟨x0, x1, fr, ty⟩ := ⟨hF, hT, f0w, f1w⟩
        exact ⟨⟨⟨x0, x1, fr, ty⟩, fo, fn, fc, to_, tn, tc⟩, hz.zn, hz.fits, by simpa [Zc.q] using c0, by simpa [Zc.q] using c1, by simpa [Zc.q] using c2, by simpa [Zc.q] using c3⟩
    have inh : Inhabited Zc := ⟨Zc.zero⟩
    obtain ⟨g, hg⟩ := choose_lt each
    have hget : ∀ i, i < n → (((List.range n).map g).map Zc.q).getD i .zero = (g i).q := by
      intro i hi
      simp [List.getD_eq_getElem?_getD, hi]
    have hmem : ∀ x ∈ (List.range n).map g, ∃ i, i < n ∧ x = g i := by
      intro x hx
      rw [List.mem_map] at hx
      obtain ⟨i, hi, rfl⟩ := hx
      exact ⟨i, List.mem_range.1 hi, rfl⟩
    refine ⟨some a, n, m, (List.range n).map g, rfl, ⟨by simp, by omega, ?_, fun x hx => ?_⟩, fun x hx => ?_⟩
    · intro i hi
      have hi' : i < n := by simpa using hi
      obtain ⟨_, _, d0, d1, d2, d3⟩ := hg i hi'
      obtain ⟨b, off, spot⟩ := a
      have hspot : spot = none := by
        have := World.cell?_spot (hg 0 (by omega)).2.2.1
        simpa [Addr.add] using this
      subst hspot
      rw [add_none] at d0 d1 d2 d3
      rw [hget i hi']
      exact ⟨b, off, rfl, d0, by rw [Nat.add_assoc]; exact d1, by rw [Nat.add_assoc]; exact d2, by rw [Nat.add_assoc]; exact d3⟩
    · obtain ⟨i, hi, rfl⟩ := hmem x hx
      exact (hg i hi).1
    · obtain ⟨i, hi, rfl⟩ := hmem x hx
      exact (hg i hi).2.1

theorem open_lists {t lt u i : TypeId} {g0 g1 g2 g3 : Field}
    (ht : P.underlying t = some (.slice lt)) (hb : P.underlying lt = some (.struct #[g0, g1, g2, g3])) (hone : oneCellFields P #[g0, g1, g2, g3] = true) (cb : P.cellsOf lt = 4) (bb : P.bytesOf lt = 48) (t3 : g3.type = u)
    (hu : P.underlying u = some (.slice i)) (hi : P.underlying i = some (.int .i64)) (ci : P.cellsOf i = 1) (bi : P.bytesOf i = 8)
    (w0 : P.underlying g0.type = some (.int .i64)) (w1 : P.underlying g1.type = some (.int .i64)) (w2 : P.underlying g2.type = some (.int .i64))
    (hf : DataW.trod enc P W 0 (fun _ => true) true fuel t [v] = some y) (hs : Sized P t y.1) :
    ∃ ao n cap l, v = .slice ao n cap ∧ Lsts W ao n l ∧ ∀ x ∈ l, x.Fits := by
  rcases open_slice ht hf with ⟨hcs, _⟩ | ⟨a, n, m0, m, fu, D, Pl, hcs, _, hl, hm, hmm, hx, hc⟩
  · simp only [List.cons.injEq, and_true] at hcs
    subst hcs
    exact ⟨none, 0, 0, [], rfl, Lsts.nil _, fun _ h => by cases h⟩
  · simp only [List.cons.injEq, and_true] at hcs
    subst hcs
    simp only [if_true] at hmm
    subst hmm
    have hr := hx ▸ hs
    have hr2 := sized_sl hr ht
    rw [bb] at hr2
    simp only [List.length_map, List.length_range, reachBytes] at hr2
    rw [cb] at hc
    obtain ⟨o0, k0⟩ := hone_of hone 0 g0 rfl
    obtain ⟨o1, k1⟩ := hone_of hone 1 g1 rfl
    obtain ⟨o2, k2⟩ := hone_of hone 2 g2 rfl
    obtain ⟨o3, k3⟩ := hone_of hone 3 g3 rfl
    have each : ∀ i, i < n → ∃ r : Lc, r.At W ∧ r.Fits ∧ W.cell? (a.add (i * 4)) = some r.q.a ∧ W.cell? (a.add (i * 4 + 1)) = some r.q.b ∧ W.cell? (a.add (i * 4 + 2)) = some r.q.c ∧ W.cell? (a.add (i * 4 + 3)) = some r.q.d := by
      intro i hi
      obtain ⟨cs', h1, h2⟩ := hc i (by omega)
      obtain ⟨_, hlen, hcell⟩ := World.cells?_some h1
      obtain ⟨y0, y1, y2, y3, q, hD, _, q0, q1, q2, q3⟩ := trod_struct4 hb h2
      have hse : Sized P lt (D i) := sized_elem hr ht (by rw [List.mem_map]; exact ⟨i, List.mem_range.2 hi, rfl⟩)
      simp only [Prod.mk.injEq] at hD
      rw [hD.1] at hse
      have s3 : Sized P u y3.1 := sized_field hse hb (i := 3) (by simp [t3]) rfl
      match cs', hlen with
      | [v0, v1, v2, v3], _ =>
        simp [o0, k0] at q0
        simp [o1, k1] at q1
        simp [o2, k2] at q2
        simp [o3, k3] at q3
        rw [t3] at q3
        obtain ⟨x0, e0, _, f0w⟩ := DataW.trod_int w0 q0
        obtain ⟨x1, e1, _, f1w⟩ := DataW.trod_int w1 q1
        obtain ⟨x2, e2, _, f2w⟩ := DataW.trod_int w2 q2
        simp only [List.cons.injEq, and_true] at e0 e1 e2
        subst e0 e1 e2
        obtain ⟨to_, tn, tc, ty, rfl, hT⟩ := open_ints_in hu ‹_› ci bi q3 s3
        have c0 := hcell 0 (by omega)
        have c1 := hcell 1 (by omega)
        have c2 := hcell 2 (by omega)
        have c3 := hcell 3 (by omega)
        rw [add_add] at c0 c1 c2 c3
        exact ⟨⟨⟨x0, x1, x2, ty⟩, to_, tn, tc⟩, ⟨hT.len, by have := hT.reach; have := hT.le; show tn * 8 ≤ _; omega, hT.at_⟩, ⟨f0w, f1w, f2w⟩, by simpa [Lc.q] using c0, by simpa [Lc.q] using c1, by simpa [Lc.q] using c2, by simpa [Lc.q] using c3⟩
    have inh : Inhabited Lc := ⟨Lc.zero⟩
    obtain ⟨g, hg⟩ := choose_lt each
    have hget : ∀ i, i < n → (((List.range n).map g).map Lc.q).getD i .zero = (g i).q := by
      intro i hi
      simp [List.getD_eq_getElem?_getD, hi]
    have hmem : ∀ x ∈ (List.range n).map g, ∃ i, i < n ∧ x = g i := by
      intro x hx
      rw [List.mem_map] at hx
      obtain ⟨i, hi, rfl⟩ := hx
      exact ⟨i, List.mem_range.1 hi, rfl⟩
    refine ⟨some a, n, m, (List.range n).map g, rfl, ⟨by simp, by omega, ?_, fun x hx => ?_⟩, fun x hx => ?_⟩
    · intro i hi
      have hi' : i < n := by simpa using hi
      obtain ⟨_, _, d0, d1, d2, d3⟩ := hg i hi'
      obtain ⟨b, off, spot⟩ := a
      have hspot : spot = none := by
        have := World.cell?_spot (hg 0 (by omega)).2.2.1
        simpa [Addr.add] using this
      subst hspot
      rw [add_none] at d0 d1 d2 d3
      rw [hget i hi']
      exact ⟨b, off, rfl, d0, by rw [Nat.add_assoc]; exact d1, by rw [Nat.add_assoc]; exact d2, by rw [Nat.add_assoc]; exact d3⟩
    · obtain ⟨i, hi, rfl⟩ := hmem x hx
      exact (hg i hi).1
    · obtain ⟨i, hi, rfl⟩ := hmem x hx
      exact (hg i hi).2.1
end

theorem array5 {α : Type} {cs : Array α} (h : cs.size = 5) : ∃ c0 c1 c2 c3 c4, cs = #[c0, c1, c2, c3, c4] := by
  obtain ⟨l⟩ := cs
  match l, h with
  | [c0, c1, c2, c3, c4], _ => exact ⟨c0, c1, c2, c3, c4, rfl⟩

theorem open_agg5 {H : Type} {enc : TypeId × Value → H} {P : Program} {W : World} {base : Nat} {t : TypeId} {f0 f1 f2 f3 f4 : Field} {v : Value} {d : DataW H} {p : List MemPlace}
    (hs : P.underlying t = some (.struct #[f0, f1, f2, f3, f4])) (hone : oneCellFields P #[f0, f1, f2, f3, f4] = true) (hC : P.cellsOf t = 5)
    (hv : Value.okWide P W .any base t v) (h : DataW.Trod enc P W 0 (fun _ => true) true t v d p) :
    ∃ (v0 v1 v2 v3 v4 : Value) (y0 y1 y2 y3 y4 : DataW H × List MemPlace) (n : Nat), v = .agg #[v0, v1, v2, v3, v4] ∧ d = .agg [y0.1, y1.1, y2.1, y3.1, y4.1] ∧
      DataW.trod enc P W 0 (fun _ => true) true n f0.type [v0] = some y0 ∧ DataW.trod enc P W 0 (fun _ => true) true n f1.type [v1] = some y1 ∧ DataW.trod enc P W 0 (fun _ => true) true n f2.type [v2] = some y2 ∧ DataW.trod enc P W 0 (fun _ => true) true n f3.type [v3] = some y3 ∧ DataW.trod enc P W 0 (fun _ => true) true n f4.type [v4] = some y4 := by
  obtain ⟨cs, rfl, hsz⟩ := okWide_struct hs hv
  obtain ⟨c0, c1, c2, c3, c4, rfl⟩ := array5 (hsz.trans hC)
  obtain ⟨fuel, hf⟩ := h
  obtain ⟨xs, n, _, hD, hl, hlen, hx⟩ := DataW.trod_struct hs hf
  simp only [Prod.mk.injEq] at hD
  obtain ⟨o0, k0⟩ := hone_of hone 0 f0 rfl
  obtain ⟨o1, k1⟩ := hone_of hone 1 f1 rfl
  obtain ⟨o2, k2⟩ := hone_of hone 2 f2 rfl
  obtain ⟨o3, k3⟩ := hone_of hone 3 f3 rfl
  obtain ⟨o4, k4⟩ := hone_of hone 4 f4 rfl
  match xs, hlen with
  | [y0, y1, y2, y3, y4], _ =>
    have h0 := hx 0 f0 rfl
    have h1 := hx 1 f1 rfl
    have h2 := hx 2 f2 rfl
    have h3 := hx 3 f3 rfl
    have h4 := hx 4 f4 rfl
    exact ⟨c0, c1, c2, c3, c4, y0, y1, y2, y3, y4, n, rfl, by simpa using hD.1, by simpa [Value.cells, o0, k0] using h0, by simpa [Value.cells, o1, k1] using h1, by simpa [Value.cells, o2, k2] using h2, by simpa [Value.cells, o3, k3] using h3, by simpa [Value.cells, o4, k4] using h4⟩

/-- The closed facts on the types that a heap is made of. -/
structure HeapTypes (P : Program) (ht zst zt bst bt ist it lst lt : TypeId) : Prop where
  heap : ∃ f0 f1 f2 f3 f4 : Field, P.underlying ht = some (.struct #[f0, f1, f2, f3, f4]) ∧ oneCellFields P #[f0, f1, f2, f3, f4] = true ∧ f0.type = zst ∧ f1.type = ist ∧ f2.type = it ∧ f3.type = lst ∧ f4.type = bst
  hc : P.cellsOf ht = 5
  zones : P.underlying zst = some (.slice zt)
  zone : ∃ f0 f1 f2 f3 : Field, P.underlying zt = some (.struct #[f0, f1, f2, f3]) ∧ oneCellFields P #[f0, f1, f2, f3] = true ∧ f0.type = it ∧ f1.type = it ∧ f2.type = bst ∧ f3.type = ist
  zcell : P.cellsOf zt = 4
  zbytes : P.bytesOf zt = 64
  blocks : P.underlying bst = some (.slice bt)
  block : ∃ f0 f1 f2 : Field, P.underlying bt = some (.struct #[f0, f1, f2]) ∧ oneCellFields P #[f0, f1, f2] = true ∧ f0.type = it ∧ f1.type = it ∧ f2.type = it
  bcell : P.cellsOf bt = 3
  bbytes : P.bytesOf bt = 24
  ints : P.underlying ist = some (.slice it)
  int : P.underlying it = some (.int .i64)
  icell : P.cellsOf it = 1
  ibytes : P.bytesOf it = 8
  lists : P.underlying lst = some (.slice lt)
  list : ∃ f0 f1 f2 f3 : Field, P.underlying lt = some (.struct #[f0, f1, f2, f3]) ∧ oneCellFields P #[f0, f1, f2, f3] = true ∧ f0.type = it ∧ f1.type = it ∧ f2.type = it ∧ f3.type = ist
  lcell : P.cellsOf lt = 4
  lbytes : P.bytesOf lt = 48

theorem open_heap_in {H : Type} {enc : TypeId × Value → H} {P : Program} {W : World} {ht zst zt bst bt ist it lst lt : TypeId} (T : HeapTypes P ht zst zt bst bt ist it lst lt) {n : Nat} {v0 v1 v2 v3 v4 : Value} {y0 y1 y2 y3 y4 : DataW H × List MemPlace}
    (h0 : DataW.trod enc P W 0 (fun _ => true) true n zst [v0] = some y0) (h1 : DataW.trod enc P W 0 (fun _ => true) true n ist [v1] = some y1) (h2 : DataW.trod enc P W 0 (fun _ => true) true n it [v2] = some y2) (h3 : DataW.trod enc P W 0 (fun _ => true) true n lst [v3] = some y3) (h4 : DataW.trod enc P W 0 (fun _ => true) true n bst [v4] = some y4)
    (s0 : Sized P zst y0.1) (s1 : Sized P ist y1.1) (s3 : Sized P lst y3.1) (s4 : Sized P bst y4.1) :
    ∃ x : Hx, v0 = .slice x.zo x.zn x.zc ∧ v1 = .slice x.mo x.mn x.mc ∧ v2 = .int .i64 x.cpus ∧ v3 = .slice x.lo x.ln x.lc ∧ v4 = .slice x.vo x.vn x.vc ∧ IsHeap W x := by
  obtain ⟨g0, g1, g2, g3, a1, a2, a3, a4, a5, a6⟩ := T.zone
  obtain ⟨b0, b1, b2, c1, c2, c3, c4, c5⟩ := T.block
  obtain ⟨l0, l1, l2, l3, d1, d2, d3, d4, d5, d6⟩ := T.list
  obtain ⟨zo, zn, zc, zs, rfl, hZ, hZf⟩ := open_zones T.zones a1 a2 T.zcell T.zbytes a5 a6 T.blocks c1 T.bcell T.bbytes c2 (by rw [c3]; exact T.int) (by rw [c4]; exact T.int) (by rw [c5]; exact T.int) T.ints T.int T.icell T.ibytes (by rw [a3]; exact T.int) (by rw [a4]; exact T.int) h0 s0
  obtain ⟨mo, mn, mc, ms, rfl, hM⟩ := open_ints_in T.ints T.int T.icell T.ibytes h1 s1
  obtain ⟨cp, e2, _, hc⟩ := DataW.trod_int T.int h2
  simp only [List.cons.injEq, and_true] at e2
  subst e2
  obtain ⟨lo, ln, lc, ls, rfl, hL, hLf⟩ := open_lists T.lists d1 d2 T.lcell T.lbytes d6 T.ints T.int T.icell T.ibytes (by rw [d3]; exact T.int) (by rw [d4]; exact T.int) (by rw [d5]; exact T.int) h3 s3
  obtain ⟨vo, vn, vc, vs, rfl, hV⟩ := open_blks T.blocks c1 T.bcell T.bbytes c2 (by rw [c3]; exact T.int) (by rw [c4]; exact T.int) (by rw [c5]; exact T.int) h4 s4
  exact ⟨⟨zs, zo, zn, zc, ms, mo, mn, mc, cp, ls, lo, ln, lc, vs, vo, vn, vc⟩, rfl, rfl, rfl, rfl, rfl, ⟨⟨hZ, ⟨hM.len, by have := hM.reach; have := hM.le; show mn * 8 ≤ _; omega, hM.at_⟩, hL, ⟨hV.len, by have := hV.reach; have := hV.le; show vn * 24 ≤ _; omega, hV.at_⟩⟩, hZf, hLf, hV.wf, hc⟩⟩

theorem open_heap_arg {H : Type} {enc : TypeId × Value → H} {P : Program} {W : World} {base : Nat} {ht zst zt bst bt ist it lst lt : TypeId} (T : HeapTypes P ht zst zt bst bt ist it lst lt) {v : Value} {d : DataW H} {p : List MemPlace}
    (hv : Value.okWide P W .any base ht v) (h : DataW.Trod enc P W 0 (fun _ => true) true ht v d p) (hs : Sized P ht d) :
    ∃ x : Hx, v = .agg #[.slice x.zo x.zn x.zc, .slice x.mo x.mn x.mc, .int .i64 x.cpus, .slice x.lo x.ln x.lc, .slice x.vo x.vn x.vc] ∧ IsHeap W x := by
  obtain ⟨f0, f1, f2, f3, f4, a1, a2, a3, a4, a5, a6, a7⟩ := T.heap
  obtain ⟨v0, v1, v2, v3, v4, y0, y1, y2, y3, y4, n, rfl, rfl, h0, h1, h2, h3, h4⟩ := open_agg5 a1 a2 T.hc hv h
  have s0 : Sized P zst y0.1 := sized_field hs a1 (i := 0) (by simp [a3]) rfl
  have s1 : Sized P ist y1.1 := sized_field hs a1 (i := 1) (by simp [a4]) rfl
  have s3 : Sized P lst y3.1 := sized_field hs a1 (i := 3) (by simp [a6]) rfl
  have s4 : Sized P bst y4.1 := sized_field hs a1 (i := 4) (by simp [a7]) rfl
  rw [a3] at h0
  rw [a4] at h1
  rw [a5] at h2
  rw [a6] at h3
  rw [a7] at h4
  obtain ⟨x, rfl, rfl, rfl, rfl, rfl, hx⟩ := open_heap_in T h0 h1 h2 h3 h4 s0 s1 s3 s4
  exact ⟨x, rfl, hx⟩

end Go.Proofs.Ytbjlbmofdnkmiaa.Kit

/-
  OWN TEXT. Closed facts on the types of a heap.
-/
namespace Go.Proofs.Ytbjlbmofdnkmiaa
open Go Go.RowKit Go.Proofs.Ytbjlbmofdnkmiaa.Kit

theorem info_zone : (Try.prog.info? 44).map (fun i => (i.zero, i.size, i.bytes)) = some (some (.agg #[.int .i64 0, .int .i64 0, .slice none 0 0, .slice none 0 0]), 4, 64) := by kernel_rfl
theorem info_list : (Try.prog.info? 57).map (fun i => (i.zero, i.size, i.bytes)) = some (some (.agg #[.int .i64 0, .int .i64 0, .int .i64 0, .slice none 0 0]), 4, 48) := by kernel_rfl
theorem size_zone : (Try.prog.info? 44).map (·.size) = some 4 := by kernel_rfl
theorem size_list : (Try.prog.info? 57).map (·.size) = some 4 := by kernel_rfl

theorem heapTypes : HeapTypes Try.prog 28 23 44 26 63 24 3 25 57 where
  heap := ⟨_, _, _, _, _, Try.underlying28, by kernel_rfl, rfl, rfl, rfl, rfl, rfl⟩
  hc := by kernel_rfl
  zones := Try.underlying23
  zone := ⟨_, _, _, _, Try.underlying44, by kernel_rfl, rfl, rfl, rfl, rfl⟩
  zcell := by kernel_rfl
  zbytes := by kernel_rfl
  blocks := Try.underlying26
  block := ⟨_, _, _, Try.underlying63, by kernel_rfl, rfl, rfl, rfl⟩
  bcell := by kernel_rfl
  bbytes := by kernel_rfl
  ints := Try.underlying24
  int := Try.underlying3
  icell := by kernel_rfl
  ibytes := by kernel_rfl
  lists := Try.underlying25
  list := ⟨_, _, _, _, Try.underlying57, by kernel_rfl, rfl, rfl, rfl, rfl⟩
  lcell := by kernel_rfl
  lbytes := by kernel_rfl

end Go.Proofs.Ytbjlbmofdnkmiaa

/-
  OWN TEXT. Contracts of the code: buddy.Copy.
-/
namespace Go.Proofs.Ytbjlbmofdnkmiaa
open Go Go.RowKit Go.Proofs.Ytbjlbmofdnkmiaa.Kit

theorem made_b {P : Program} {t e : TypeId} {i : TypeInfo} {z : Value} (ht : P.underlying t = some (.slice e)) (hi : P.info? e = some i) (hz : i.zero = some z) (n : Nat) (hb : i.bytes * n ≤ 281474976710656) (hm : n ≤ maxLen) :
    ∃ M : Array Value, M.size = n * i.size ∧ ∀ W : World, (Instr.makeSlice t (.int .i64 (n : Int)) (.int .i64 (n : Int))).run P W = .ok (.slice (some ⟨W.heap.size, 0, none⟩) n n) (W.alloc (.cells M e)) := by
  refine ⟨madeCells z.cells (n * i.size), size_madeCells _ _, fun W => ?_⟩
  have hr := run_make (P := P) W t e i z ht hi hz .i64 .i64 n n (by omega) (Int.le_refl _) (by
    have h : ((i.bytes * n : Nat) : Int) ≤ 281474976710656 := by omega
    rwa [Int.natCast_mul] at h) (by have h := hm; simp [maxLen] at h; omega)
  simpa using hr

theorem owns_of_row {w : World} {base : Nat} {e : TypeId} {g n size : Nat} {xs : List Value} (h : w.heap[g]? = some (.cells xs.toArray e (0, 0))) (hb : base ≤ g) (hl : xs.length = n * size) (hm : n ≤ maxLen) :
    w.ownsRow base e size (.slice (some ⟨g, 0, none⟩) n n) n xs :=
  ⟨hl, .inr ⟨g, n, _, rfl, hb, h, Nat.le_refl _, hm, by simpa using hl, by simpa using List.take_of_length_le (by omega)⟩⟩

theorem owns_but {w w' : World} {base : Nat} {e : TypeId} {g n cap size c : Nat} {xs : List Value} (h : w.ownsRow base e size (.slice (some ⟨g, 0, none⟩) n cap) n xs) (hb : But c w w') (hne : g ≠ c) :
    w'.ownsRow base e size (.slice (some ⟨g, 0, none⟩) n cap) n xs :=
  h.kept (row := some c) ⟨hb.os, hb.tape, hb.output, hb.size, fun k hk hne => hb.block k hk (by intro g; exact hne (by rw [g]))⟩ (.inr (by simp [Value.ownBlock]; exact hne))

/-- What is there in the midst of a copy: the zone that came in at b, the copy at x with its rows at g and k. -/
structure CpI (W0 : World) (zb : Nat) (f t : Int) (fo : Option Addr) (fn fc : Nat) (to_ : Option Addr) (tn tc : Nat) (x g k : Nat) (MB MT : Array Value) (W : World) : Prop where
  b : Below W0.heap.size W0 W
  zin : ZBox W zb (.int .i64 f) (.int .i64 t) (.slice fo fn fc) (.slice to_ tn tc)
  res : Res4 W (zb + 1)
  box : ZBox W x (.int .i64 f) (.int .i64 t) (.slice (some ⟨g, 0, none⟩) fn fn) (.slice (some ⟨k, 0, none⟩) tn tn)
  rg : W.heap[g]? = some (.cells MB 63 (0, 0))
  rk : W.heap[k]? = some (.cells MT 3 (0, 0))
  xg : x ≠ g
  xk : x ≠ k
  gk : g ≠ k
  x2 : zb + 2 ≤ x
  g2 : zb + 2 ≤ g
  k2 : zb + 2 ≤ k

theorem zbox_of_row {W : World} {x : Nat} {a b c d : Value} {t : TypeId} (h : W.heap[x]? = some (.cells #[a, b, c, d] t (0, 0))) : ZBox W x a b c d := by
  have hc : ∀ i : Nat, W.cell? ⟨x, i, none⟩ = (#[a, b, c, d] : Array Value)[i]? := fun i => by simp [World.cell?, h]
  have hf : ∀ i : Nat, W.frozen? ⟨x, i, none⟩ = false := fun i => by simp [World.frozen?, h]
  exact ⟨by rw [hc]; rfl, by rw [hc]; rfl, by rw [hc]; rfl, by rw [hc]; rfl, hf 0, hf 1, hf 2, hf 3⟩

theorem heap3 {W : World} {A B C : Obj} {n : Nat} (hs : W.heap.size = n) : ((((W.alloc A).alloc B).alloc C).drew).heap[n]? = some A ∧ ((((W.alloc A).alloc B).alloc C).drew).heap[n + 1]? = some B ∧ ((((W.alloc A).alloc B).alloc C).drew).heap[n + 1 + 1]? = some C := by
  subst hs
  show (((W.heap.push A).push B).push C)[W.heap.size]? = _ ∧ (((W.heap.push A).push B).push C)[W.heap.size + 1]? = _ ∧ (((W.heap.push A).push B).push C)[W.heap.size + 1 + 1]? = _
  refine ⟨?_, ?_, ?_⟩
  · rw [Array.getElem?_push, if_neg (by simp; omega), Array.getElem?_push, if_neg (by simp), Array.getElem?_push, if_pos rfl]
  · rw [Array.getElem?_push, if_neg (by simp), Array.getElem?_push, if_pos (by simp)]
  · rw [Array.getElem?_push, if_pos (by simp)]

section
variable {W0 : World} {b : Nat} {f t : Int} {fo : Option Addr} {fn fc : Nat} {to_ : Option Addr} {tn tc : Nat} {x g k : Nat} {MB MT : Array Value} {W W' : World}
theorem cpI_of (Z0 : ZBox W0 b (.int .i64 f) (.int .i64 t) (.slice fo fn fc) (.slice to_ tn tc)) (R0 : Res4 W0 (b + 1)) (hb : Below W0.heap.size W0 W)
    (hx : W.heap[x]? = some (.cells #[.int .i64 f, .int .i64 t, .slice (some ⟨g, 0, none⟩) fn fn, .slice (some ⟨k, 0, none⟩) tn tn] 44 (0, 0)))
    (hg : W.heap[g]? = some (.cells MB 63 (0, 0))) (hk : W.heap[k]? = some (.cells MT 3 (0, 0))) (xg : x ≠ g) (xk : x ≠ k) (gk : g ≠ k) (x2 : b + 2 ≤ x) (g2 : b + 2 ≤ g) (k2 : b + 2 ≤ k) : CpI W0 b f t fo fn fc to_ tn tc x g k MB MT W :=
  ⟨hb, Z0.below hb, R0.below hb, zbox_of_row hx, hg, hk, xg, xk, gk, x2, g2, k2⟩
theorem cpI_423 (Z0 : ZBox W0 b (.int .i64 f) (.int .i64 t) (.slice fo fn fc) (.slice to_ tn tc)) (R0 : Res4 W0 (b + 1)) (hs : W0.heap.size = b + 2) :
    CpI W0 b f t fo fn fc to_ tn tc (b + 2 + 1 + 1) (b + 2) (b + 2 + 1) MB MT ((((W0.alloc (.cells MB 63)).alloc (.cells MT 3)).alloc (.cells #[.int .i64 f, .int .i64 t, .slice (some ⟨b + 2, 0, none⟩) fn fn, .slice (some ⟨b + 2 + 1, 0, none⟩) tn tn] 44)).drew) :=
  cpI_of Z0 R0 (((((Below.refl _ _).alloc (Nat.le_refl _) _).alloc (by simp) _).alloc (by simp; omega) _).drew) (heap3 hs).2.2 (heap3 hs).1 (heap3 hs).2.1 (by omega) (by omega) (by omega) (by omega) (by omega) (by omega)
theorem cpI_324 (Z0 : ZBox W0 b (.int .i64 f) (.int .i64 t) (.slice fo fn fc) (.slice to_ tn tc)) (R0 : Res4 W0 (b + 1)) (hs : W0.heap.size = b + 2) :
    CpI W0 b f t fo fn fc to_ tn tc (b + 2 + 1) (b + 2) (b + 2 + 1 + 1) MB MT ((((W0.alloc (.cells MB 63)).alloc (.cells #[.int .i64 f, .int .i64 t, .slice (some ⟨b + 2, 0, none⟩) fn fn, .slice (some ⟨b + 2 + 1 + 1, 0, none⟩) tn tn] 44)).alloc (.cells MT 3)).drew) :=
  cpI_of Z0 R0 (((((Below.refl _ _).alloc (Nat.le_refl _) _).alloc (by simp) _).alloc (by simp; omega) _).drew) (heap3 hs).2.1 (heap3 hs).1 (heap3 hs).2.2 (by omega) (by omega) (by omega) (by omega) (by omega) (by omega)
theorem cpI_432 (Z0 : ZBox W0 b (.int .i64 f) (.int .i64 t) (.slice fo fn fc) (.slice to_ tn tc)) (R0 : Res4 W0 (b + 1)) (hs : W0.heap.size = b + 2) :
    CpI W0 b f t fo fn fc to_ tn tc (b + 2 + 1 + 1) (b + 2 + 1) (b + 2) MB MT ((((W0.alloc (.cells MT 3)).alloc (.cells MB 63)).alloc (.cells #[.int .i64 f, .int .i64 t, .slice (some ⟨b + 2 + 1, 0, none⟩) fn fn, .slice (some ⟨b + 2, 0, none⟩) tn tn] 44)).drew) :=
  cpI_of Z0 R0 (((((Below.refl _ _).alloc (Nat.le_refl _) _).alloc (by simp) _).alloc (by simp; omega) _).drew) (heap3 hs).2.2 (heap3 hs).2.1 (heap3 hs).1 (by omega) (by omega) (by omega) (by omega) (by omega) (by omega)
theorem cpI_342 (Z0 : ZBox W0 b (.int .i64 f) (.int .i64 t) (.slice fo fn fc) (.slice to_ tn tc)) (R0 : Res4 W0 (b + 1)) (hs : W0.heap.size = b + 2) :
    CpI W0 b f t fo fn fc to_ tn tc (b + 2 + 1) (b + 2 + 1 + 1) (b + 2) MB MT ((((W0.alloc (.cells MT 3)).alloc (.cells #[.int .i64 f, .int .i64 t, .slice (some ⟨b + 2 + 1 + 1, 0, none⟩) fn fn, .slice (some ⟨b + 2, 0, none⟩) tn tn] 44)).alloc (.cells MB 63)).drew) :=
  cpI_of Z0 R0 (((((Below.refl _ _).alloc (Nat.le_refl _) _).alloc (by simp) _).alloc (by simp; omega) _).drew) (heap3 hs).2.1 (heap3 hs).2.2 (heap3 hs).1 (by omega) (by omega) (by omega) (by omega) (by omega) (by omega)
theorem cpI_234 (Z0 : ZBox W0 b (.int .i64 f) (.int .i64 t) (.slice fo fn fc) (.slice to_ tn tc)) (R0 : Res4 W0 (b + 1)) (hs : W0.heap.size = b + 2) :
    CpI W0 b f t fo fn fc to_ tn tc (b + 2) (b + 2 + 1) (b + 2 + 1 + 1) MB MT ((((W0.alloc (.cells #[.int .i64 f, .int .i64 t, .slice (some ⟨b + 2 + 1, 0, none⟩) fn fn, .slice (some ⟨b + 2 + 1 + 1, 0, none⟩) tn tn] 44)).alloc (.cells MB 63)).alloc (.cells MT 3)).drew) :=
  cpI_of Z0 R0 (((((Below.refl _ _).alloc (Nat.le_refl _) _).alloc (by simp) _).alloc (by simp; omega) _).drew) (heap3 hs).1 (heap3 hs).2.1 (heap3 hs).2.2 (by omega) (by omega) (by omega) (by omega) (by omega) (by omega)
theorem cpI_243 (Z0 : ZBox W0 b (.int .i64 f) (.int .i64 t) (.slice fo fn fc) (.slice to_ tn tc)) (R0 : Res4 W0 (b + 1)) (hs : W0.heap.size = b + 2) :
    CpI W0 b f t fo fn fc to_ tn tc (b + 2) (b + 2 + 1 + 1) (b + 2 + 1) MB MT ((((W0.alloc (.cells #[.int .i64 f, .int .i64 t, .slice (some ⟨b + 2 + 1 + 1, 0, none⟩) fn fn, .slice (some ⟨b + 2 + 1, 0, none⟩) tn tn] 44)).alloc (.cells MT 3)).alloc (.cells MB 63)).drew) :=
  cpI_of Z0 R0 (((((Below.refl _ _).alloc (Nat.le_refl _) _).alloc (by simp) _).alloc (by simp; omega) _).drew) (heap3 hs).1 (heap3 hs).2.2 (heap3 hs).2.1 (by omega) (by omega) (by omega) (by omega) (by omega) (by omega)
theorem CpI.copied (h : CpI W0 b f t fo fn fc to_ tn tc x g k MB MT W) (hb : But g W W') {M : Array Value} (hg : W'.heap[g]? = some (.cells M 63 (0, 0))) (hs : W0.heap.size ≤ g) : CpI W0 b f t fo fn fc to_ tn tc x g k M MT W' :=
  ⟨h.b.trans (hb.below hs h.b.size), h.zin.but hb (by have := h.g2; omega), h.res.but hb (by have := h.g2; omega), h.box.but hb h.xg, hg, (hb.block k (Array.getElem?_eq_some_iff.1 h.rk).1 (fun e => h.gk e.symm)).trans h.rk, h.xg, h.xk, h.gk, h.x2, h.g2, h.k2⟩
theorem CpI.copied2 (h : CpI W0 b f t fo fn fc to_ tn tc x g k MB MT W) (hb : But k W W') {M : Array Value} (hg : W'.heap[k]? = some (.cells M 3 (0, 0))) (hs : W0.heap.size ≤ k) : CpI W0 b f t fo fn fc to_ tn tc x g k MB M W' :=
  ⟨h.b.trans (hb.below hs h.b.size), h.zin.but hb (by have := h.k2; omega), h.res.but hb (by have := h.k2; omega), h.box.but hb h.xk, (hb.block g (Array.getElem?_eq_some_iff.1 h.rg).1 h.gk).trans h.rg, hg, h.xg, h.xk, h.gk, h.x2, h.g2, h.k2⟩
theorem CpI.last {LB LT CB CT : List Value} {free : List Bk} {types : List Int} (h : CpI W0 b f t fo fn fc to_ tn tc x g k (splice LB 0 CB).toArray (splice LT 0 CT).toArray W) (eB : CB = bvals free) (eT : CT = vals types) (lB : CB.length = fn * 3) (lT : CT.length = tn * 1) (mB : LB.length = fn * 3) (mT : LT.length = tn * 1) (hmf : fn ≤ maxLen) (hmt : tn ≤ maxLen) :
    W.ownsRow b 63 3 (.slice (some ⟨g, 0, none⟩) fn fn) fn (bvals free) ∧ W.ownsRow b 3 1 (.slice (some ⟨k, 0, none⟩) tn tn) tn (vals types) ∧ g ≠ k := by
  have hg := h.rg
  have hk := h.rk
  rw [splice_all (by omega)] at hg hk
  exact ⟨by rw [← eB]; exact owns_of_row hg (by have := h.g2; omega) lB hmf, by rw [← eT]; exact owns_of_row hk (by have := h.k2; omega) lT hmt, h.gk⟩
end

set_option maxHeartbeats 4000000 in
theorem zCopy_own (w : World) (fo : Option Addr) (fn fc : Nat) (to_ : Option Addr) (tn tc : Nat) (z : Zn) (h : ZnAt w fo fn to_ tn z) :
    Calls Try.prog 41 #[.agg #[.int .i64 z.f, .int .i64 z.t, .slice fo fn fc, .slice to_ tn tc]] w fun e w' => ∃ g k, e = .returned (.agg #[.int .i64 z.f, .int .i64 z.t, .slice (some ⟨g, 0, none⟩) fn fn, .slice (some ⟨k, 0, none⟩) tn tn]) ∧
      w'.ownsRow w.heap.size 63 3 (.slice (some ⟨g, 0, none⟩) fn fn) fn (bvals z.free) ∧ w'.ownsRow w.heap.size 3 1 (.slice (some ⟨k, 0, none⟩) tn tn) tn (vals z.types) ∧ g ≠ k ∧ Below w.heap.size w w' := by
  obtain ⟨f, t, free, types⟩ := z
  obtain ⟨hf, ht⟩ := h
  dsimp only at hf ht ⊢
  obtain ⟨i0, hi, hz0, hz1, hz2⟩ := info_parts info_int
  obtain ⟨i1, hj, hy0, hy1, hy2⟩ := info_parts info_block
  have hfr := hf.reach
  have htr := ht.reach
  have hmf : fn ≤ maxLen := by unfold maxLen; omega
  have hmt : tn ≤ maxLen := by unfold maxLen; omega
  obtain ⟨MB, sB, hB⟩ := made_b (P := Try.prog) Try.underlying26 hj hy0 fn (by rw [hy2]; omega) hmf
  obtain ⟨MT, sT, hT⟩ := made_b (P := Try.prog) Try.underlying24 hi hz0 tn (by rw [hz2]; omega) hmt
  rw [hy1] at sB
  rw [hz1] at sT
  obtain ⟨W0, hW0⟩ : ∃ W0, (w.alloc (.cells #[.int .i64 f, .int .i64 t, .slice fo fn fc, .slice to_ tn tc] 44)).alloc (.cells #[.int .i64 0, .int .i64 0, .slice none 0 0, .slice none 0 0] 44) = W0 := ⟨_, rfl⟩
  have hb0 : Below w.heap.size w W0 := by rw [← hW0]; exact ((Below.refl _ _).alloc (Nat.le_refl _) _).alloc (by simp) _
  have Z0 : ZBox W0 w.heap.size (.int .i64 f) (.int .i64 t) (.slice fo fn fc) (.slice to_ tn tc) := by rw [← hW0]; exact (zbox_new w _ _ _ _ _).below (below_box _ _)
  have R0 : Res4 W0 (w.heap.size + 1) := by
    rw [← hW0]
    have := zbox_new (w.alloc (.cells #[.int .i64 f, .int .i64 t, .slice fo fn fc, .slice to_ tn tc] 44)) (.int .i64 0) (.int .i64 0) (.slice none 0 0) (.slice none 0 0) 44
    have h2 := this.res
    simpa using h2
  have hs0 : W0.heap.size = w.heap.size + 2 := by rw [← hW0]; simp
  have HW0 : Hid _ := hW0
  have Z1 := Z0
  have R1 := R0
  obtain ⟨CB, hCB⟩ : ∃ CB, CB = bvals free := ⟨_, rfl⟩
  obtain ⟨CT, hCT⟩ : ∃ CT, CT = vals types := ⟨_, rfl⟩
  have lB : CB.length = fn * 3 := by rw [hCB, length_bvals, hf.len]
  have lT : CT.length = tn * 1 := by rw [hCT, length_vals, ht.len, Nat.mul_one]
  have oB : ∀ v ∈ CB, v.oneCell' = true := by rw [hCB]; exact bvals_oneCell _
  have oT : ∀ v ∈ CT, v.oneCell' = true := by rw [hCT]; exact vals_oneCell _
  have HSB : Hid (∀ W, Below W0.heap.size W0 W → 0 < fn → ∃ ad, fo = some ad ∧ ∀ j v, CB[j]? = some v → W.cell? (ad.add j) = some v) := fun W hW h0 => by
    rw [hCB]
    exact bsrc_of ((hf.below hb0).below hW).at_ (by have := hf.len; omega)
  have HST : Hid (∀ W, Below W0.heap.size W0 W → 0 < tn → ∃ ad, to_ = some ad ∧ ∀ j v, CT[j]? = some v → W.cell? (ad.add j) = some v) := fun W hW h0 => by
    rw [hCT]
    exact src_of ((ht.below hb0).below hW).at_ (by have := ht.len; omega)
  have HCB : Hid _ := hCB
  have HCT : Hid _ := hCT
  clear hCB hCT
  have c0 := Z0.c0
  have c1 := Z0.c1
  have c2 := Z0.c2
  have c3 := Z0.c3
  have hsB : Hid (MB.size = fn * 3) := sB
  have hsT : Hid (MT.size = tn * 1) := sT
  clear hW0 sB sT
  go_enter Try.func41, Try.ntmps41
  go_wp2_with (rw [HW0.out])
  clear HW0
  go_region
  clear Z0 R0 c0 c1 c2 c3 hB hT hf ht
  · have I1 : CpI W0 w.heap.size f t fo fn fc to_ tn tc (w.heap.size + 2 + 1 + 1) (w.heap.size + 2) (w.heap.size + 2 + 1) MB MT _ := cpI_423 Z1 R1 hs0
    generalize World.drew _ = W1 at I1 ⊢
    generalize w.heap.size + 2 + 1 + 1 = n4 at I1 ⊢
    generalize w.heap.size + 2 + 1 = n3 at I1 ⊢
    generalize hn2 : w.heap.size + 2 = n2 at I1 ⊢
    have hx2 := I1.x2
    have hg2 := I1.g2
    have hk2 := I1.k2
    have y2 := I1.box.c2
    have y3 := I1.box.c3
    have q2 := I1.zin.c2
    have q3 := I1.zin.c3
    go_wp2_with (first
      | (refine wpList_copy_k rfl (.tmp 18) (.tmp 20) 26 26 rfl 63 3 Try.underlying26 size_block _ _ _ _ _ _ rfl rfl n2 0 MB.toList 63 (by simpa using I1.rg) CB fn (Nat.min_self _) lB (fun h0 => ⟨rfl, HSB.out _ I1.b h0⟩) (by simp only [Array.length_toList]; rw [lB, hsB.out]; omega) oB ?_; intro w2 hg2 hb2; have I2 := I1.copied hb2 hg2.out (by omega); have a3 := I2.box.c3; have b3 := I2.zin.c3)
      | (refine wpList_copy_k rfl (.tmp 23) (.tmp 25) 24 24 rfl 3 1 Try.underlying24 size_int _ _ _ _ _ _ rfl rfl n3 0 MT.toList 3 (by simpa using I2.rk) CT tn (Nat.min_self _) lT (fun h0 => ⟨rfl, HST.out _ I2.b h0⟩) (by simp only [Array.length_toList]; rw [lT, hsT.out]; omega) oT ?_; intro w3 hg3 hb3; have I3 := I2.copied2 hb3 hg3.out (by omega); have e0 := I3.box.c0; have e1 := I3.box.c1; have e2 := I3.box.c2; have e3 := I3.box.c3; have R3 := I3.res; obtain ⟨⟨x0, d0⟩, ⟨x1, d1⟩, ⟨x2, d2⟩, ⟨x3, d3⟩, z0, z1, z2, z3⟩ := id R3))
    obtain ⟨o1, o2, o3⟩ := I3.last HCB.out HCT.out lB lT (by rw [Array.length_toList, hsB.out]) (by rw [Array.length_toList, hsT.out]) hmf hmt
    have hB3 := hb0.trans (I3.b.mono (by omega))
    obtain ⟨k0, k1, k2, k3⟩ := res4 R3 (.int .i64 f) (.int .i64 t) (.slice (some ⟨n2, 0, none⟩) fn fn) (.slice (some ⟨n3, 0, none⟩) tn tn)
    have hbt := but4 w3 (w.heap.size + 1) (.int .i64 f) (.int .i64 t) (.slice (some ⟨n2, 0, none⟩) fn fn) (.slice (some ⟨n3, 0, none⟩) tn tn)
    exact bodyPost_ret (v := .agg #[.int .i64 f, .int .i64 t, .slice (some ⟨n2, 0, none⟩) fn fn, .slice (some ⟨n3, 0, none⟩) tn tn]) (by simp [results, Try.results41, go_sem, k0, k1, k2, k3]) rfl ⟨n2, n3, rfl, owns_but o1 hbt (by omega), owns_but o2 hbt (by omega), o3, hB3.trans (hbt.below (by omega) hB3.size)⟩
  · have I1 : CpI W0 w.heap.size f t fo fn fc to_ tn tc (w.heap.size + 2 + 1) (w.heap.size + 2) (w.heap.size + 2 + 1 + 1) MB MT _ := cpI_324 Z1 R1 hs0
    generalize World.drew _ = W1 at I1 ⊢
    generalize w.heap.size + 2 + 1 + 1 = n4 at I1 ⊢
    generalize w.heap.size + 2 + 1 = n3 at I1 ⊢
    generalize hn2 : w.heap.size + 2 = n2 at I1 ⊢
    have hx2 := I1.x2
    have hg2 := I1.g2
    have hk2 := I1.k2
    have y2 := I1.box.c2
    have y3 := I1.box.c3
    have q2 := I1.zin.c2
    have q3 := I1.zin.c3
    go_wp2_with (first
      | (refine wpList_copy_k rfl (.tmp 18) (.tmp 20) 26 26 rfl 63 3 Try.underlying26 size_block _ _ _ _ _ _ rfl rfl n2 0 MB.toList 63 (by simpa using I1.rg) CB fn (Nat.min_self _) lB (fun h0 => ⟨rfl, HSB.out _ I1.b h0⟩) (by simp only [Array.length_toList]; rw [lB, hsB.out]; omega) oB ?_; intro w2 hg2 hb2; have I2 := I1.copied hb2 hg2.out (by omega); have a3 := I2.box.c3; have b3 := I2.zin.c3)
      | (refine wpList_copy_k rfl (.tmp 23) (.tmp 25) 24 24 rfl 3 1 Try.underlying24 size_int _ _ _ _ _ _ rfl rfl n4 0 MT.toList 3 (by simpa using I2.rk) CT tn (Nat.min_self _) lT (fun h0 => ⟨rfl, HST.out _ I2.b h0⟩) (by simp only [Array.length_toList]; rw [lT, hsT.out]; omega) oT ?_; intro w3 hg3 hb3; have I3 := I2.copied2 hb3 hg3.out (by omega); have e0 := I3.box.c0; have e1 := I3.box.c1; have e2 := I3.box.c2; have e3 := I3.box.c3; have R3 := I3.res; obtain ⟨⟨x0, d0⟩, ⟨x1, d1⟩, ⟨x2, d2⟩, ⟨x3, d3⟩, z0, z1, z2, z3⟩ := id R3))
    obtain ⟨o1, o2, o3⟩ := I3.last HCB.out HCT.out lB lT (by rw [Array.length_toList, hsB.out]) (by rw [Array.length_toList, hsT.out]) hmf hmt
    have hB3 := hb0.trans (I3.b.mono (by omega))
    obtain ⟨k0, k1, k2, k3⟩ := res4 R3 (.int .i64 f) (.int .i64 t) (.slice (some ⟨n2, 0, none⟩) fn fn) (.slice (some ⟨n4, 0, none⟩) tn tn)
    have hbt := but4 w3 (w.heap.size + 1) (.int .i64 f) (.int .i64 t) (.slice (some ⟨n2, 0, none⟩) fn fn) (.slice (some ⟨n4, 0, none⟩) tn tn)
    exact bodyPost_ret (v := .agg #[.int .i64 f, .int .i64 t, .slice (some ⟨n2, 0, none⟩) fn fn, .slice (some ⟨n4, 0, none⟩) tn tn]) (by simp [results, Try.results41, go_sem, k0, k1, k2, k3]) rfl ⟨n2, n4, rfl, owns_but o1 hbt (by omega), owns_but o2 hbt (by omega), o3, hB3.trans (hbt.below (by omega) hB3.size)⟩
  · have I1 : CpI W0 w.heap.size f t fo fn fc to_ tn tc (w.heap.size + 2 + 1 + 1) (w.heap.size + 2 + 1) (w.heap.size + 2) MB MT _ := cpI_432 Z1 R1 hs0
    generalize World.drew _ = W1 at I1 ⊢
    generalize w.heap.size + 2 + 1 + 1 = n4 at I1 ⊢
    generalize w.heap.size + 2 + 1 = n3 at I1 ⊢
    generalize hn2 : w.heap.size + 2 = n2 at I1 ⊢
    have hx2 := I1.x2
    have hg2 := I1.g2
    have hk2 := I1.k2
    have y2 := I1.box.c2
    have y3 := I1.box.c3
    have q2 := I1.zin.c2
    have q3 := I1.zin.c3
    go_wp2_with (first
      | (refine wpList_copy_k rfl (.tmp 18) (.tmp 20) 26 26 rfl 63 3 Try.underlying26 size_block _ _ _ _ _ _ rfl rfl n3 0 MB.toList 63 (by simpa using I1.rg) CB fn (Nat.min_self _) lB (fun h0 => ⟨rfl, HSB.out _ I1.b h0⟩) (by simp only [Array.length_toList]; rw [lB, hsB.out]; omega) oB ?_; intro w2 hg2 hb2; have I2 := I1.copied hb2 hg2.out (by omega); have a3 := I2.box.c3; have b3 := I2.zin.c3)
      | (refine wpList_copy_k rfl (.tmp 23) (.tmp 25) 24 24 rfl 3 1 Try.underlying24 size_int _ _ _ _ _ _ rfl rfl n2 0 MT.toList 3 (by simpa using I2.rk) CT tn (Nat.min_self _) lT (fun h0 => ⟨rfl, HST.out _ I2.b h0⟩) (by simp only [Array.length_toList]; rw [lT, hsT.out]; omega) oT ?_; intro w3 hg3 hb3; have I3 := I2.copied2 hb3 hg3.out (by omega); have e0 := I3.box.c0; have e1 := I3.box.c1; have e2 := I3.box.c2; have e3 := I3.box.c3; have R3 := I3.res; obtain ⟨⟨x0, d0⟩, ⟨x1, d1⟩, ⟨x2, d2⟩, ⟨x3, d3⟩, z0, z1, z2, z3⟩ := id R3))
    obtain ⟨o1, o2, o3⟩ := I3.last HCB.out HCT.out lB lT (by rw [Array.length_toList, hsB.out]) (by rw [Array.length_toList, hsT.out]) hmf hmt
    have hB3 := hb0.trans (I3.b.mono (by omega))
    obtain ⟨k0, k1, k2, k3⟩ := res4 R3 (.int .i64 f) (.int .i64 t) (.slice (some ⟨n3, 0, none⟩) fn fn) (.slice (some ⟨n2, 0, none⟩) tn tn)
    have hbt := but4 w3 (w.heap.size + 1) (.int .i64 f) (.int .i64 t) (.slice (some ⟨n3, 0, none⟩) fn fn) (.slice (some ⟨n2, 0, none⟩) tn tn)
    exact bodyPost_ret (v := .agg #[.int .i64 f, .int .i64 t, .slice (some ⟨n3, 0, none⟩) fn fn, .slice (some ⟨n2, 0, none⟩) tn tn]) (by simp [results, Try.results41, go_sem, k0, k1, k2, k3]) rfl ⟨n3, n2, rfl, owns_but o1 hbt (by omega), owns_but o2 hbt (by omega), o3, hB3.trans (hbt.below (by omega) hB3.size)⟩
  · have I1 : CpI W0 w.heap.size f t fo fn fc to_ tn tc (w.heap.size + 2 + 1) (w.heap.size + 2 + 1 + 1) (w.heap.size + 2) MB MT _ := cpI_342 Z1 R1 hs0
    generalize World.drew _ = W1 at I1 ⊢
    generalize w.heap.size + 2 + 1 + 1 = n4 at I1 ⊢
    generalize w.heap.size + 2 + 1 = n3 at I1 ⊢
    generalize hn2 : w.heap.size + 2 = n2 at I1 ⊢
    have hx2 := I1.x2
    have hg2 := I1.g2
    have hk2 := I1.k2
    have y2 := I1.box.c2
    have y3 := I1.box.c3
    have q2 := I1.zin.c2
    have q3 := I1.zin.c3
    go_wp2_with (first
      | (refine wpList_copy_k rfl (.tmp 18) (.tmp 20) 26 26 rfl 63 3 Try.underlying26 size_block _ _ _ _ _ _ rfl rfl n4 0 MB.toList 63 (by simpa using I1.rg) CB fn (Nat.min_self _) lB (fun h0 => ⟨rfl, HSB.out _ I1.b h0⟩) (by simp only [Array.length_toList]; rw [lB, hsB.out]; omega) oB ?_; intro w2 hg2 hb2; have I2 := I1.copied hb2 hg2.out (by omega); have a3 := I2.box.c3; have b3 := I2.zin.c3)
      | (refine wpList_copy_k rfl (.tmp 23) (.tmp 25) 24 24 rfl 3 1 Try.underlying24 size_int _ _ _ _ _ _ rfl rfl n2 0 MT.toList 3 (by simpa using I2.rk) CT tn (Nat.min_self _) lT (fun h0 => ⟨rfl, HST.out _ I2.b h0⟩) (by simp only [Array.length_toList]; rw [lT, hsT.out]; omega) oT ?_; intro w3 hg3 hb3; have I3 := I2.copied2 hb3 hg3.out (by omega); have e0 := I3.box.c0; have e1 := I3.box.c1; have e2 := I3.box.c2; have e3 := I3.box.c3; have R3 := I3.res; obtain ⟨⟨x0, d0⟩, ⟨x1, d1⟩, ⟨x2, d2⟩, ⟨x3, d3⟩, z0, z1, z2, z3⟩ := id R3))
    obtain ⟨o1, o2, o3⟩ := I3.last HCB.out HCT.out lB lT (by rw [Array.length_toList, hsB.out]) (by rw [Array.length_toList, hsT.out]) hmf hmt
    have hB3 := hb0.trans (I3.b.mono (by omega))
    obtain ⟨k0, k1, k2, k3⟩ := res4 R3 (.int .i64 f) (.int .i64 t) (.slice (some ⟨n4, 0, none⟩) fn fn) (.slice (some ⟨n2, 0, none⟩) tn tn)
    have hbt := but4 w3 (w.heap.size + 1) (.int .i64 f) (.int .i64 t) (.slice (some ⟨n4, 0, none⟩) fn fn) (.slice (some ⟨n2, 0, none⟩) tn tn)
    exact bodyPost_ret (v := .agg #[.int .i64 f, .int .i64 t, .slice (some ⟨n4, 0, none⟩) fn fn, .slice (some ⟨n2, 0, none⟩) tn tn]) (by simp [results, Try.results41, go_sem, k0, k1, k2, k3]) rfl ⟨n4, n2, rfl, owns_but o1 hbt (by omega), owns_but o2 hbt (by omega), o3, hB3.trans (hbt.below (by omega) hB3.size)⟩
  · have I1 : CpI W0 w.heap.size f t fo fn fc to_ tn tc (w.heap.size + 2) (w.heap.size + 2 + 1) (w.heap.size + 2 + 1 + 1) MB MT _ := cpI_234 Z1 R1 hs0
    generalize World.drew _ = W1 at I1 ⊢
    generalize w.heap.size + 2 + 1 + 1 = n4 at I1 ⊢
    generalize w.heap.size + 2 + 1 = n3 at I1 ⊢
    generalize hn2 : w.heap.size + 2 = n2 at I1 ⊢
    have hx2 := I1.x2
    have hg2 := I1.g2
    have hk2 := I1.k2
    have y2 := I1.box.c2
    have y3 := I1.box.c3
    have q2 := I1.zin.c2
    have q3 := I1.zin.c3
    go_wp2_with (first
      | (refine wpList_copy_k rfl (.tmp 18) (.tmp 20) 26 26 rfl 63 3 Try.underlying26 size_block _ _ _ _ _ _ rfl rfl n3 0 MB.toList 63 (by simpa using I1.rg) CB fn (Nat.min_self _) lB (fun h0 => ⟨rfl, HSB.out _ I1.b h0⟩) (by simp only [Array.length_toList]; rw [lB, hsB.out]; omega) oB ?_; intro w2 hg2 hb2; have I2 := I1.copied hb2 hg2.out (by omega); have a3 := I2.box.c3; have b3 := I2.zin.c3)
      | (refine wpList_copy_k rfl (.tmp 23) (.tmp 25) 24 24 rfl 3 1 Try.underlying24 size_int _ _ _ _ _ _ rfl rfl n4 0 MT.toList 3 (by simpa using I2.rk) CT tn (Nat.min_self _) lT (fun h0 => ⟨rfl, HST.out _ I2.b h0⟩) (by simp only [Array.length_toList]; rw [lT, hsT.out]; omega) oT ?_; intro w3 hg3 hb3; have I3 := I2.copied2 hb3 hg3.out (by omega); have e0 := I3.box.c0; have e1 := I3.box.c1; have e2 := I3.box.c2; have e3 := I3.box.c3; have R3 := I3.res; obtain ⟨⟨x0, d0⟩, ⟨x1, d1⟩, ⟨x2, d2⟩, ⟨x3, d3⟩, z0, z1, z2, z3⟩ := id R3))
    obtain ⟨o1, o2, o3⟩ := I3.last HCB.out HCT.out lB lT (by rw [Array.length_toList, hsB.out]) (by rw [Array.length_toList, hsT.out]) hmf hmt
    have hB3 := hb0.trans (I3.b.mono (by omega))
    obtain ⟨k0, k1, k2, k3⟩ := res4 R3 (.int .i64 f) (.int .i64 t) (.slice (some ⟨n3, 0, none⟩) fn fn) (.slice (some ⟨n4, 0, none⟩) tn tn)
    have hbt := but4 w3 (w.heap.size + 1) (.int .i64 f) (.int .i64 t) (.slice (some ⟨n3, 0, none⟩) fn fn) (.slice (some ⟨n4, 0, none⟩) tn tn)
    exact bodyPost_ret (v := .agg #[.int .i64 f, .int .i64 t, .slice (some ⟨n3, 0, none⟩) fn fn, .slice (some ⟨n4, 0, none⟩) tn tn]) (by simp [results, Try.results41, go_sem, k0, k1, k2, k3]) rfl ⟨n3, n4, rfl, owns_but o1 hbt (by omega), owns_but o2 hbt (by omega), o3, hB3.trans (hbt.below (by omega) hB3.size)⟩
  · have I1 : CpI W0 w.heap.size f t fo fn fc to_ tn tc (w.heap.size + 2) (w.heap.size + 2 + 1 + 1) (w.heap.size + 2 + 1) MB MT _ := cpI_243 Z1 R1 hs0
    generalize World.drew _ = W1 at I1 ⊢
    generalize w.heap.size + 2 + 1 + 1 = n4 at I1 ⊢
    generalize w.heap.size + 2 + 1 = n3 at I1 ⊢
    generalize hn2 : w.heap.size + 2 = n2 at I1 ⊢
    have hx2 := I1.x2
    have hg2 := I1.g2
    have hk2 := I1.k2
    have y2 := I1.box.c2
    have y3 := I1.box.c3
    have q2 := I1.zin.c2
    have q3 := I1.zin.c3
    go_wp2_with (first
      | (refine wpList_copy_k rfl (.tmp 18) (.tmp 20) 26 26 rfl 63 3 Try.underlying26 size_block _ _ _ _ _ _ rfl rfl n4 0 MB.toList 63 (by simpa using I1.rg) CB fn (Nat.min_self _) lB (fun h0 => ⟨rfl, HSB.out _ I1.b h0⟩) (by simp only [Array.length_toList]; rw [lB, hsB.out]; omega) oB ?_; intro w2 hg2 hb2; have I2 := I1.copied hb2 hg2.out (by omega); have a3 := I2.box.c3; have b3 := I2.zin.c3)
      | (refine wpList_copy_k rfl (.tmp 23) (.tmp 25) 24 24 rfl 3 1 Try.underlying24 size_int _ _ _ _ _ _ rfl rfl n3 0 MT.toList 3 (by simpa using I2.rk) CT tn (Nat.min_self _) lT (fun h0 => ⟨rfl, HST.out _ I2.b h0⟩) (by simp only [Array.length_toList]; rw [lT, hsT.out]; omega) oT ?_; intro w3 hg3 hb3; have I3 := I2.copied2 hb3 hg3.out (by omega); have e0 := I3.box.c0; have e1 := I3.box.c1; have e2 := I3.box.c2; have e3 := I3.box.c3; have R3 := I3.res; obtain ⟨⟨x0, d0⟩, ⟨x1, d1⟩, ⟨x2, d2⟩, ⟨x3, d3⟩, z0, z1, z2, z3⟩ := id R3))
    obtain ⟨o1, o2, o3⟩ := I3.last HCB.out HCT.out lB lT (by rw [Array.length_toList, hsB.out]) (by rw [Array.length_toList, hsT.out]) hmf hmt
    have hB3 := hb0.trans (I3.b.mono (by omega))
    obtain ⟨k0, k1, k2, k3⟩ := res4 R3 (.int .i64 f) (.int .i64 t) (.slice (some ⟨n4, 0, none⟩) fn fn) (.slice (some ⟨n3, 0, none⟩) tn tn)
    have hbt := but4 w3 (w.heap.size + 1) (.int .i64 f) (.int .i64 t) (.slice (some ⟨n4, 0, none⟩) fn fn) (.slice (some ⟨n3, 0, none⟩) tn tn)
    exact bodyPost_ret (v := .agg #[.int .i64 f, .int .i64 t, .slice (some ⟨n4, 0, none⟩) fn fn, .slice (some ⟨n3, 0, none⟩) tn tn]) (by simp [results, Try.results41, go_sem, k0, k1, k2, k3]) rfl ⟨n4, n3, rfl, owns_but o1 hbt (by omega), owns_but o2 hbt (by omega), o3, hB3.trans (hbt.below (by omega) hB3.size)⟩

theorem zCopy_any (w : World) (fo : Option Addr) (fn fc : Nat) (to_ : Option Addr) (tn tc : Nat) (z : Zn) (h : ZnAt w fo fn to_ tn z) :
    Calls Try.prog 41 #[.agg #[.int .i64 z.f, .int .i64 z.t, .slice fo fn fc, .slice to_ tn tc]] w fun e w' => RetZ w.heap.size w' z e ∧ Below w.heap.size w w' := by
  refine (zCopy_own w fo fn fc to_ tn tc z h).mono ?_
  rintro e w1 ⟨g, k, rfl, o1, o2, _, hb⟩
  exact ⟨⟨_, _, _, _, _, _, rfl, ⟨blks_own o1 h.free.reach, nums_of_owns o2 h.types.reach⟩, owns_fresh o1, owns_fresh o2⟩, hb⟩

end Go.Proofs.Ytbjlbmofdnkmiaa
