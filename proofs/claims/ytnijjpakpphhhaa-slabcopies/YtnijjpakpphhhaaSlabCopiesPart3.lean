/-
  OWN TEXTS, bundled: HArgs, SKit, SArgs, Base, ZRet, ZBase, HBase.
-/
import Derived.Test.YtnijjpakpphhhaaSlabCopiesPart2
import Derived.Test.YtnijjpakpphhhaaChecked
import Derived.Test.YtnijjpakpphhhaaSlabCopiesPart1

/-
  OWN TEXT. How an argument that is a heap of pages (api.Heap) is opened for the walk, over whatever program.
-/
namespace Go.Proofs.Ytnijjpakpphhhaa.Kit
open Go Go.RowKit Go.ChangeShapes Go.WideShapes Go.ChangeAt Go.Joins Go.Deep

theorem sized_elem {H : Type} {P : Program} {t e : TypeId} {elems spare : List (DataW H)} {d : DataW H} (h : Sized P t (.slice elems spare)) (ht : P.underlying t = some (.slice e)) (hd : d ∈ elems) : Sized P e d := by
  have hall : ∀ (l : List (DataW H)), d ∈ l → ∀ n ∈ d.weights P e, n ∈ DataW.weightsAll P e l := by
    intro l
    induction l with
    | nil => intro h; cases h
    | cons x l ih =>
      intro hx n hn
      simp only [DataW.weightsAll, List.mem_append]
      rcases List.mem_cons.1 hx with rfl | hx
      · exact .inl hn
      · exact .inr (ih hx n hn)
  intro n hn
  apply h
  simp only [DataW.weights, ht, List.mem_cons, List.mem_append]
  exact .inr (.inl (hall _ hd n hn))

/-- The numbers of a zone are words. -/
structure Lc.Fits (x : Lc) : Prop where
  c : (Lit.int .i64 x.l.c).wf = true
  z : (Lit.int .i64 x.l.z).wf = true
  t : (Lit.int .i64 x.l.t).wf = true

/-- What the walk is told of a heap that came in. -/
structure IsHeap (w : World) (x : Hx) : Prop where
  at_ : x.At w
  zf : ∀ z ∈ x.zs, ZFits z.z
  lf : ∀ l ∈ x.ls, l.Fits
  vf : ∀ i, i < x.vn → (x.live.getD i .zero).Fits
  cf : (Lit.int .i64 x.cpus).wf = true

theorem add_none {b off j : Nat} : (⟨b, off, none⟩ : Addr).add j = ⟨b, off + j, none⟩ := by unfold Addr.add; split <;> simp_all

section
variable {H : Type} {enc : TypeId × Value → H} {P : Program} {W : World} {fuel : Nat} {v : Value} {y : DataW H × List MemPlace}
theorem open_zones {t e zt bt u i : TypeId} {g0 g1 g2 g3 f0 f1 f2 : Field}
    (ht : P.underlying t = some (.slice zt)) (hb : P.underlying zt = some (.struct #[g0, g1, g2, g3])) (hone : oneCellFields P #[g0, g1, g2, g3] = true) (cb : P.cellsOf zt = 4) (bb : P.bytesOf zt = 64) (t2 : g2.type = bt) (t3 : g3.type = u)
    (hbt : P.underlying bt = some (.slice e)) (he : P.underlying e = some (.struct #[f0, f1, f2])) (ce : P.cellsOf e = 3) (be : P.bytesOf e = 24) (hone2 : oneCellFields P #[f0, f1, f2] = true)
    (u0 : P.underlying f0.type = some (.int .i64)) (u1 : P.underlying f1.type = some (.int .i64)) (u2 : P.underlying f2.type = some (.int .i64))
    (hu : P.underlying u = some (.slice i)) (hi : P.underlying i = some (.int .i64)) (ci : P.cellsOf i = 1) (bi : P.bytesOf i = 8)
    (w0 : P.underlying g0.type = some (.int .i64)) (w1 : P.underlying g1.type = some (.int .i64))
    (hf : DataW.trod enc P W 0 (fun _ => true) true fuel t [v] = some y) (hs : Sized P t y.1) :
    ∃ ao n cap l, v = .slice ao n cap ∧ Zons W ao n l ∧ ∀ x ∈ l, ZFits x.z := by
  rcases open_slice ht hf with ⟨hcs, _⟩ | ⟨a, n, m0, m, fu, D, Pl, hcs, _, hl, hm, hmm, hx, hc⟩
  · simp only [List.cons.injEq, and_true] at hcs
    subst hcs
    exact ⟨none, 0, 0, [], rfl, Zons.nil _, fun _ h => by cases h⟩
  · simp only [List.cons.injEq, and_true] at hcs
    subst hcs
    simp only [if_true] at hmm
    subst hmm
    have hr := hx ▸ hs
    have hr2 := sized_sl hr ht
    rw [bb] at hr2
    simp only [List.length_map, List.length_range, reachBytes] at hr2
    rw [cb] at hc
    obtain ⟨o0, k0⟩ := hone_of hone 0 g0 rfl
    obtain ⟨o1, k1⟩ := hone_of hone 1 g1 rfl
    obtain ⟨o2, k2⟩ := hone_of hone 2 g2 rfl
    obtain ⟨o3, k3⟩ := hone_of hone 3 g3 rfl
    have each : ∀ i, i < n → ∃ r : Zc, r.At W ∧ ZFits r.z ∧ W.cell? (a.add (i * 4)) = some r.q.a ∧ W.cell? (a.add (i * 4 + 1)) = some r.q.b ∧ W.cell? (a.add (i * 4 + 2)) = some r.q.c ∧ W.cell? (a.add (i * 4 + 3)) = some r.q.d := by
      intro i hi
      obtain ⟨cs', h1, h2⟩ := hc i (by omega)
      obtain ⟨_, hlen, hcell⟩ := World.cells?_some h1
      obtain ⟨y0, y1, y2, y3, q, hD, _, q0, q1, q2, q3⟩ := trod_struct4 hb h2
      have hse : Sized P zt (D i) := sized_elem hr ht (by rw [List.mem_map]; exact ⟨i, List.mem_range.2 hi, rfl⟩)
      simp only [Prod.mk.injEq] at hD
      rw [hD.1] at hse
      have s2 : Sized P bt y2.1 := sized_field hse hb (i := 2) (by simp [t2]) rfl
      have s3 : Sized P u y3.1 := sized_field hse hb (i := 3) (by simp [t3]) rfl
      match cs', hlen with
      | [v0, v1, v2, v3], _ =>
        simp [o0, k0] at q0
        simp [o1, k1] at q1
        simp [o2, k2] at q2
        simp [o3, k3] at q3
        rw [t2] at q2
        rw [t3] at q3
        obtain ⟨x0, e0, _, f0w⟩ := DataW.trod_int w0 q0
        obtain ⟨x1, e1, _, f1w⟩ := DataW.trod_int w1 q1
        simp only [List.cons.injEq, and_true] at e0 e1
        subst e0 e1
        obtain ⟨fo, fn, fc, fr, rfl, hF⟩ := open_blks hbt he ce be hone2 u0 u1 u2 q2 s2
        obtain ⟨to_, tn, tc, ty, rfl, hT⟩ := open_ints_in hu ‹_› ci bi q3 s3
        have c0 := hcell 0 (by omega)
        have c1 := hcell 1 (by omega)
        have c2 := hcell 2 (by omega)
        have c3 := hcell 3 (by omega)
        rw [add_add] at c0 c1 c2 c3
        have hz : IsZone W fo fn fc to_ tn tc ⟨x0, x1, fr, ty⟩ := ⟨hF, hT, f0w, f1w⟩
        exact ⟨⟨⟨x0, x1, fr, ty⟩, fo, fn, fc, to_, tn, tc⟩, hz.zn, hz.fits, by simpa [Zc.q] using c0, by simpa [Zc.q] using c1, by simpa [Zc.q] using c2, by simpa [Zc.q] using c3⟩
    have inh : Inhabited Zc := ⟨Zc.zero⟩
    obtain ⟨g, hg⟩ := choose_lt each
    have hget : ∀ i, i < n → (((List.range n).map g).map Zc.q).getD i .zero = (g i).q := by
      intro i hi
      simp [List.getD_eq_getElem?_getD, hi]
    have hmem : ∀ x ∈ (List.range n).map g, ∃ i, i < n ∧ x = g i := by
      intro x hx
      rw [List.mem_map] at hx
      obtain ⟨i, hi, rfl⟩ := hx
      exact ⟨i, List.mem_range.1 hi, rfl⟩
    refine ⟨some a, n, m, (List.range n).map g, rfl, ⟨by simp, by omega, ?_, fun x hx => ?_⟩, fun x hx => ?_⟩
    · intro i hi
      have hi' : i < n := by simpa using hi
      obtain ⟨_, _, d0, d1, d2, d3⟩ := hg i hi'
      obtain ⟨b, off, spot⟩ := a
      have hspot : spot = none := by
        have := World.cell?_spot (hg 0 (by omega)).2.2.1
        simpa [Addr.add] using this
      subst hspot
      rw [add_none] at d0 d1 d2 d3
      rw [hget i hi']
      exact ⟨b, off, rfl, d0, by rw [Nat.add_assoc]; exact d1, by rw [Nat.add_assoc]; exact d2, by rw [Nat.add_assoc]; exact d3⟩
    · obtain ⟨i, hi, rfl⟩ := hmem x hx
      exact (hg i hi).1
    · obtain ⟨i, hi, rfl⟩ := hmem x hx
      exact (hg i hi).2.1

theorem open_lists {t lt u i : TypeId} {g0 g1 g2 g3 : Field}
    (ht : P.underlying t = some (.slice lt)) (hb : P.underlying lt = some (.struct #[g0, g1, g2, g3])) (hone : oneCellFields P #[g0, g1, g2, g3] = true) (cb : P.cellsOf lt = 4) (bb : P.bytesOf lt = 48) (t3 : g3.type = u)
    (hu : P.underlying u = some (.slice i)) (hi : P.underlying i = some (.int .i64)) (ci : P.cellsOf i = 1) (bi : P.bytesOf i = 8)
    (w0 : P.underlying g0.type = some (.int .i64)) (w1 : P.underlying g1.type = some (.int .i64)) (w2 : P.underlying g2.type = some (.int .i64))
    (hf : DataW.trod enc P W 0 (fun _ => true) true fuel t [v] = some y) (hs : Sized P t y.1) :
    ∃ ao n cap l, v = .slice ao n cap ∧ Lsts W ao n l ∧ ∀ x ∈ l, x.Fits := by
  rcases open_slice ht hf with ⟨hcs, _⟩ | ⟨a, n, m0, m, fu, D, Pl, hcs, _, hl, hm, hmm, hx, hc⟩
  · simp only [List.cons.injEq, and_true] at hcs
    subst hcs
    exact ⟨none, 0, 0, [], rfl, Lsts.nil _, fun _ h => by cases h⟩
  · simp only [List.cons.injEq, and_true] at hcs
    subst hcs
    simp only [if_true] at hmm
    subst hmm
    have hr := hx ▸ hs
    have hr2 := sized_sl hr ht
    rw [bb] at hr2
    simp only [List.length_map, List.length_range, reachBytes] at hr2
    rw [cb] at hc
    obtain ⟨o0, k0⟩ := hone_of hone 0 g0 rfl
    obtain ⟨o1, k1⟩ := hone_of hone 1 g1 rfl
    obtain ⟨o2, k2⟩ := hone_of hone 2 g2 rfl
    obtain ⟨o3, k3⟩ := hone_of hone 3 g3 rfl
    have each : ∀ i, i < n → ∃ r : Lc, r.At W ∧ r.Fits ∧ W.cell? (a.add (i * 4)) = some r.q.a ∧ W.cell? (a.add (i * 4 + 1)) = some r.q.b ∧ W.cell? (a.add (i * 4 + 2)) = some r.q.c ∧ W.cell? (a.add (i * 4 + 3)) = some r.q.d := by
      intro i hi
      obtain ⟨cs', h1, h2⟩ := hc i (by omega)
      obtain ⟨_, hlen, hcell⟩ := World.cells?_some h1
      obtain ⟨y0, y1, y2, y3, q, hD, _, q0, q1, q2, q3⟩ := trod_struct4 hb h2
      have hse : Sized P lt (D i) := sized_elem hr ht (by rw [List.mem_map]; exact ⟨i, List.mem_range.2 hi, rfl⟩)
      simp only [Prod.mk.injEq] at hD
      rw [hD.1] at hse
      have s3 : Sized P u y3.1 := sized_field hse hb (i := 3) (by simp [t3]) rfl
      match cs', hlen with
      | [v0, v1, v2, v3], _ =>
        simp [o0, k0] at q0
        simp [o1, k1] at q1
        simp [o2, k2] at q2
        simp [o3, k3] at q3
        rw [t3] at q3
        obtain ⟨x0, e0, _, f0w⟩ := DataW.trod_int w0 q0
        obtain ⟨x1, e1, _, f1w⟩ := DataW.trod_int w1 q1
        obtain ⟨x2, e2, _, f2w⟩ := DataW.trod_int w2 q2
        simp only [List.cons.injEq, and_true] at e0 e1 e2
        subst e0 e1 e2
        obtain ⟨to_, tn, tc, ty, rfl, hT⟩ := open_ints_in hu ‹_› ci bi q3 s3
        have c0 := hcell 0 (by omega)
        have c1 := hcell 1 (by omega)
        have c2 := hcell 2 (by omega)
        have c3 := hcell 3 (by omega)
        rw [add_add] at c0 c1 c2 c3
        exact ⟨⟨⟨x0, x1, x2, ty⟩, to_, tn, tc⟩, ⟨hT.len, by have := hT.reach; have := hT.le; show tn * 8 ≤ _; omega, hT.at_⟩, ⟨f0w, f1w, f2w⟩, by simpa [Lc.q] using c0, by simpa [Lc.q] using c1, by simpa [Lc.q] using c2, by simpa [Lc.q] using c3⟩
    have inh : Inhabited Lc := ⟨Lc.zero⟩
    obtain ⟨g, hg⟩ := choose_lt each
    have hget : ∀ i, i < n → (((List.range n).map g).map Lc.q).getD i .zero = (g i).q := by
      intro i hi
      simp [List.getD_eq_getElem?_getD, hi]
    have hmem : ∀ x ∈ (List.range n).map g, ∃ i, i < n ∧ x = g i := by
      intro x hx
      rw [List.mem_map] at hx
      obtain ⟨i, hi, rfl⟩ := hx
      exact ⟨i, List.mem_range.1 hi, rfl⟩
    refine ⟨some a, n, m, (List.range n).map g, rfl, ⟨by simp, by omega, ?_, fun x hx => ?_⟩, fun x hx => ?_⟩
    · intro i hi
      have hi' : i < n := by simpa using hi
      obtain ⟨_, _, d0, d1, d2, d3⟩ := hg i hi'
      obtain ⟨b, off, spot⟩ := a
      have hspot : spot = none := by
        have := World.cell?_spot (hg 0 (by omega)).2.2.1
        simpa [Addr.add] using this
      subst hspot
      rw [add_none] at d0 d1 d2 d3
      rw [hget i hi']
      exact ⟨b, off, rfl, d0, by rw [Nat.add_assoc]; exact d1, by rw [Nat.add_assoc]; exact d2, by rw [Nat.add_assoc]; exact d3⟩
    · obtain ⟨i, hi, rfl⟩ := hmem x hx
      exact (hg i hi).1
    · obtain ⟨i, hi, rfl⟩ := hmem x hx
      exact (hg i hi).2.1
end

theorem array5 {α : Type} {cs : Array α} (h : cs.size = 5) : ∃ c0 c1 c2 c3 c4, cs = #[c0, c1, c2, c3, c4] := by
  obtain ⟨l⟩ := cs
  match l, h with
  | [c0, c1, c2, c3, c4], _ => exact ⟨c0, c1, c2, c3, c4, rfl⟩

theorem open_agg5 {H : Type} {enc : TypeId × Value → H} {P : Program} {W : World} {base : Nat} {t : TypeId} {f0 f1 f2 f3 f4 : Field} {v : Value} {d : DataW H} {p : List MemPlace}
    (hs : P.underlying t = some (.struct #[f0, f1, f2, f3, f4])) (hone : oneCellFields P #[f0, f1, f2, f3, f4] = true) (hC : P.cellsOf t = 5)
    (hv : Value.okWide P W .any base t v) (h : DataW.Trod enc P W 0 (fun _ => true) true t v d p) :
    ∃ (v0 v1 v2 v3 v4 : Value) (y0 y1 y2 y3 y4 : DataW H × List MemPlace) (n : Nat), v = .agg #[v0, v1, v2, v3, v4] ∧ d = .agg [y0.1, y1.1, y2.1, y3.1, y4.1] ∧
      DataW.trod enc P W 0 (fun _ => true) true n f0.type [v0] = some y0 ∧ DataW.trod enc P W 0 (fun _ => true) true n f1.type [v1] = some y1 ∧ DataW.trod enc P W 0 (fun _ => true) true n f2.type [v2] = some y2 ∧ DataW.trod enc P W 0 (fun _ => true) true n f3.type [v3] = some y3 ∧ DataW.trod enc P W 0 (fun _ => true) true n f4.type [v4] = some y4 := by
  obtain ⟨cs, rfl, hsz⟩ := okWide_struct hs hv
  obtain ⟨c0, c1, c2, c3, c4, rfl⟩ := array5 (hsz.trans hC)
  obtain ⟨fuel, hf⟩ := h
  obtain ⟨xs, n, _, hD, hl, hlen, hx⟩ := DataW.trod_struct hs hf
  simp only [Prod.mk.injEq] at hD
  obtain ⟨o0, k0⟩ := hone_of hone 0 f0 rfl
  obtain ⟨o1, k1⟩ := hone_of hone 1 f1 rfl
  obtain ⟨o2, k2⟩ := hone_of hone 2 f2 rfl
  obtain ⟨o3, k3⟩ := hone_of hone 3 f3 rfl
  obtain ⟨o4, k4⟩ := hone_of hone 4 f4 rfl
  match xs, hlen with
  | [y0, y1, y2, y3, y4], _ =>
    have h0 := hx 0 f0 rfl
    have h1 := hx 1 f1 rfl
    have h2 := hx 2 f2 rfl
    have h3 := hx 3 f3 rfl
    have h4 := hx 4 f4 rfl
    exact ⟨c0, c1, c2, c3, c4, y0, y1, y2, y3, y4, n, rfl, by simpa using hD.1, by simpa [Value.cells, o0, k0] using h0, by simpa [Value.cells, o1, k1] using h1, by simpa [Value.cells, o2, k2] using h2, by simpa [Value.cells, o3, k3] using h3, by simpa [Value.cells, o4, k4] using h4⟩

/-- The closed facts on the types that a heap is made of. -/
structure HeapTypes (P : Program) (ht zst zt bst bt ist it lst lt : TypeId) : Prop where
  heap : ∃ f0 f1 f2 f3 f4 : Field, P.underlying ht = some (.struct #[f0, f1, f2, f3, f4]) ∧ oneCellFields P #[f0, f1, f2, f3, f4] = true ∧ f0.type = zst ∧ f1.type = ist ∧ f2.type = it ∧ f3.type = lst ∧ f4.type = bst
  hc : P.cellsOf ht = 5
  zones : P.underlying zst = some (.slice zt)
  zone : ∃ f0 f1 f2 f3 : Field, P.underlying zt = some (.struct #[f0, f1, f2, f3]) ∧ oneCellFields P #[f0, f1, f2, f3] = true ∧ f0.type = it ∧ f1.type = it ∧ f2.type = bst ∧ f3.type = ist
  zcell : P.cellsOf zt = 4
  zbytes : P.bytesOf zt = 64
  blocks : P.underlying bst = some (.slice bt)
  block : ∃ f0 f1 f2 : Field, P.underlying bt = some (.struct #[f0, f1, f2]) ∧ oneCellFields P #[f0, f1, f2] = true ∧ f0.type = it ∧ f1.type = it ∧ f2.type = it
  bcell : P.cellsOf bt = 3
  bbytes : P.bytesOf bt = 24
  ints : P.underlying ist = some (.slice it)
  int : P.underlying it = some (.int .i64)
  icell : P.cellsOf it = 1
  ibytes : P.bytesOf it = 8
  lists : P.underlying lst = some (.slice lt)
  list : ∃ f0 f1 f2 f3 : Field, P.underlying lt = some (.struct #[f0, f1, f2, f3]) ∧ oneCellFields P #[f0, f1, f2, f3] = true ∧ f0.type = it ∧ f1.type = it ∧ f2.type = it ∧ f3.type = ist
  lcell : P.cellsOf lt = 4
  lbytes : P.bytesOf lt = 48

theorem open_heap_in {H : Type} {enc : TypeId × Value → H} {P : Program} {W : World} {ht zst zt bst bt ist it lst lt : TypeId} (T : HeapTypes P ht zst zt bst bt ist it lst lt) {n : Nat} {v0 v1 v2 v3 v4 : Value} {y0 y1 y2 y3 y4 : DataW H × List MemPlace}
    (h0 : DataW.trod enc P W 0 (fun _ => true) true n zst [v0] = some y0) (h1 : DataW.trod enc P W 0 (fun _ => true) true n ist [v1] = some y1) (h2 : DataW.trod enc P W 0 (fun _ => true) true n it [v2] = some y2) (h3 : DataW.trod enc P W 0 (fun _ => true) true n lst [v3] = some y3) (h4 : DataW.trod enc P W 0 (fun _ => true) true n bst [v4] = some y4)
    (s0 : Sized P zst y0.1) (s1 : Sized P ist y1.1) (s3 : Sized P lst y3.1) (s4 : Sized P bst y4.1) :
    ∃ x : Hx, v0 = .slice x.zo x.zn x.zc ∧ v1 = .slice x.mo x.mn x.mc ∧ v2 = .int .i64 x.cpus ∧ v3 = .slice x.lo x.ln x.lc ∧ v4 = .slice x.vo x.vn x.vc ∧ IsHeap W x := by
  obtain ⟨g0, g1, g2, g3, a1, a2, a3, a4, a5, a6⟩ := T.zone
  obtain ⟨b0, b1, b2, c1, c2, c3, c4, c5⟩ := T.block
  obtain ⟨l0, l1, l2, l3, d1, d2, d3, d4, d5, d6⟩ := T.list
  obtain ⟨zo, zn, zc, zs, rfl, hZ, hZf⟩ := open_zones T.zones a1 a2 T.zcell T.zbytes a5 a6 T.blocks c1 T.bcell T.bbytes c2 (by rw [c3]; exact T.int) (by rw [c4]; exact T.int) (by rw [c5]; exact T.int) T.ints T.int T.icell T.ibytes (by rw [a3]; exact T.int) (by rw [a4]; exact T.int) h0 s0
  obtain ⟨mo, mn, mc, ms, rfl, hM⟩ := open_ints_in T.ints T.int T.icell T.ibytes h1 s1
  obtain ⟨cp, e2, _, hc⟩ := DataW.trod_int T.int h2
  simp only [List.cons.injEq, and_true] at e2
  subst e2
  obtain ⟨lo, ln, lc, ls, rfl, hL, hLf⟩ := open_lists T.lists d1 d2 T.lcell T.lbytes d6 T.ints T.int T.icell T.ibytes (by rw [d3]; exact T.int) (by rw [d4]; exact T.int) (by rw [d5]; exact T.int) h3 s3
  obtain ⟨vo, vn, vc, vs, rfl, hV⟩ := open_blks T.blocks c1 T.bcell T.bbytes c2 (by rw [c3]; exact T.int) (by rw [c4]; exact T.int) (by rw [c5]; exact T.int) h4 s4
  exact ⟨⟨zs, zo, zn, zc, ms, mo, mn, mc, cp, ls, lo, ln, lc, vs, vo, vn, vc⟩, rfl, rfl, rfl, rfl, rfl, ⟨⟨hZ, ⟨hM.len, by have := hM.reach; have := hM.le; show mn * 8 ≤ _; omega, hM.at_⟩, hL, ⟨hV.len, by have := hV.reach; have := hV.le; show vn * 24 ≤ _; omega, hV.at_⟩⟩, hZf, hLf, hV.wf, hc⟩⟩

theorem open_heap_arg {H : Type} {enc : TypeId × Value → H} {P : Program} {W : World} {base : Nat} {ht zst zt bst bt ist it lst lt : TypeId} (T : HeapTypes P ht zst zt bst bt ist it lst lt) {v : Value} {d : DataW H} {p : List MemPlace}
    (hv : Value.okWide P W .any base ht v) (h : DataW.Trod enc P W 0 (fun _ => true) true ht v d p) (hs : Sized P ht d) :
    ∃ x : Hx, v = .agg #[.slice x.zo x.zn x.zc, .slice x.mo x.mn x.mc, .int .i64 x.cpus, .slice x.lo x.ln x.lc, .slice x.vo x.vn x.vc] ∧ IsHeap W x := by
  obtain ⟨f0, f1, f2, f3, f4, a1, a2, a3, a4, a5, a6, a7⟩ := T.heap
  obtain ⟨v0, v1, v2, v3, v4, y0, y1, y2, y3, y4, n, rfl, rfl, h0, h1, h2, h3, h4⟩ := open_agg5 a1 a2 T.hc hv h
  have s0 : Sized P zst y0.1 := sized_field hs a1 (i := 0) (by simp [a3]) rfl
  have s1 : Sized P ist y1.1 := sized_field hs a1 (i := 1) (by simp [a4]) rfl
  have s3 : Sized P lst y3.1 := sized_field hs a1 (i := 3) (by simp [a6]) rfl
  have s4 : Sized P bst y4.1 := sized_field hs a1 (i := 4) (by simp [a7]) rfl
  rw [a3] at h0
  rw [a4] at h1
  rw [a5] at h2
  rw [a6] at h3
  rw [a7] at h4
  obtain ⟨x, rfl, rfl, rfl, rfl, rfl, hx⟩ := open_heap_in T h0 h1 h2 h3 h4 s0 s1 s3 s4
  exact ⟨x, rfl, hx⟩

end Go.Proofs.Ytnijjpakpphhhaa.Kit

/-
  OWN TEXT. Rows of six cells each; slices of strings; caches as such rows; a system of words, pages and caches that can be read; over whatever program.
-/
namespace Go.Proofs.Ytnijjpakpphhhaa.Kit
open Go Go.RowKit

/-- Six cells. -/
structure Q6 where
  a : Value
  b : Value
  c : Value
  d : Value
  e : Value
  f : Value
def Q6.zero : Q6 := ⟨.int .i64 0, .int .i64 0, .int .i64 0, .int .i64 0, .int .i64 0, .int .i64 0⟩
def Q6.cells (x : Q6) : List Value := [x.a, x.b, x.c, x.d, x.e, x.f]
/-- Rows of six cells. -/
def c6 : List Q6 → List Value
  | [] => []
  | x :: l => x.a :: x.b :: x.c :: x.d :: x.e :: x.f :: c6 l

theorem length_c6 (l : List Q6) : (c6 l).length = l.length * 6 := by
  induction l with
  | nil => rfl
  | cons r l ih => simp only [c6, List.length_cons, ih]; omega
theorem c6_append (l m : List Q6) : c6 (l ++ m) = c6 l ++ c6 m := by
  induction l with
  | nil => rfl
  | cons r l ih => simp [c6, ih]
theorem c6_get (l : List Q6) (i : Nat) (h : i < l.length) : (c6 l)[i * 6]? = some (l.getD i .zero).a ∧ (c6 l)[i * 6 + 1]? = some (l.getD i .zero).b ∧ (c6 l)[i * 6 + 2]? = some (l.getD i .zero).c ∧ (c6 l)[i * 6 + 3]? = some (l.getD i .zero).d ∧ (c6 l)[i * 6 + 4]? = some (l.getD i .zero).e ∧ (c6 l)[i * 6 + 5]? = some (l.getD i .zero).f := by
  induction l generalizing i with
  | nil => simp at h
  | cons r l ih =>
    cases i with
    | zero => simp [c6]
    | succ i =>
      have := ih i (by simpa using h)
      rw [Nat.succ_mul]
      simpa [c6] using this
/-- Each of them is one cell. -/
def Q6.One (x : Q6) : Prop := x.a.oneCell' = true ∧ x.b.oneCell' = true ∧ x.c.oneCell' = true ∧ x.d.oneCell' = true ∧ x.e.oneCell' = true ∧ x.f.oneCell' = true
theorem c6_oneCell (l : List Q6) (h : ∀ x ∈ l, x.One) : ∀ u ∈ c6 l, u.oneCell' = true := by
  induction l with
  | nil => intro u hu; simp [c6] at hu
  | cons r l ih =>
    intro u hu
    obtain ⟨h0, h1, h2, h3, h4, h5⟩ := h r (by simp)
    simp only [c6, List.mem_cons] at hu
    rcases hu with rfl | rfl | rfl | rfl | rfl | rfl | hu
    · exact h0
    · exact h1
    · exact h2
    · exact h3
    · exact h4
    · exact h5
    · exact ih (fun x hx => h x (by simp [hx])) u hu
theorem c6_set (l : List Q6) (i : Nat) (h : i < l.length) (x : Q6) : ((((((c6 l).set (i * 6) x.a).set (i * 6 + 1) x.b).set (i * 6 + 2) x.c).set (i * 6 + 3) x.d).set (i * 6 + 4) x.e).set (i * 6 + 5) x.f = c6 (l.set i x) := by
  induction l generalizing i with
  | nil => simp at h
  | cons r l ih =>
    cases i with
    | zero => simp [c6]
    | succ i =>
      have := ih i (by simpa using h)
      rw [Nat.succ_mul]
      simpa [c6] using this

/-- The cells from 'ao' on hold the rows 'l'. -/
def C6At (w : World) (ao : Option Addr) (l : List Q6) : Prop :=
  ∀ i, i < l.length → ∃ b off, ao = some ⟨b, off, none⟩ ∧ w.cell? ⟨b, off + i * 6, none⟩ = some (l.getD i .zero).a ∧ w.cell? ⟨b, off + i * 6 + 1, none⟩ = some (l.getD i .zero).b ∧
    w.cell? ⟨b, off + i * 6 + 2, none⟩ = some (l.getD i .zero).c ∧ w.cell? ⟨b, off + i * 6 + 3, none⟩ = some (l.getD i .zero).d ∧ w.cell? ⟨b, off + i * 6 + 4, none⟩ = some (l.getD i .zero).e ∧ w.cell? ⟨b, off + i * 6 + 5, none⟩ = some (l.getD i .zero).f
theorem C6At.below {w w' : World} {ao : Option Addr} {l : List Q6} (h : C6At w ao l) (hb : Below w.heap.size w w') : C6At w' ao l := by
  intro i hi
  obtain ⟨b, off, ha, h1, h2, h3, h4, h5, h6⟩ := h i hi
  exact ⟨b, off, ha, keep h1 hb, keep h2 hb, keep h3 hb, keep h4 hb, keep h5 hb, keep h6 hb⟩
theorem C6At.nil (w : World) (ao : Option Addr) : C6At w ao [] := fun i hi => absurd hi (by simp)
theorem c6_of_owns {w : World} {base : Nat} {e : TypeId} {ao : Option Addr} {n cap : Nat} {l : List Q6} (h : w.ownsRow base e 6 (.slice ao n cap) n (c6 l)) : C6At w ao l := by
  intro i hi
  have hl := h.1
  rw [length_c6] at hl
  obtain ⟨g0, g1, g2, g3, g4, g5⟩ := c6_get l i hi
  rcases h.2 with ⟨h', h0⟩ | ⟨g, cap', cur, h', _, hg, _, _, _, htake⟩
  · omega
  · simp only [Value.slice.injEq] at h'
    obtain ⟨rfl, _, rfl⟩ := h'
    refine ⟨g, 0, rfl, ?_, ?_, ?_, ?_, ?_, ?_⟩
    · rw [Nat.zero_add, h.cellAt (i * 6) (by omega), g0]
    · rw [Nat.zero_add, h.cellAt (i * 6 + 1) (by omega), g1]
    · rw [Nat.zero_add, h.cellAt (i * 6 + 2) (by omega), g2]
    · rw [Nat.zero_add, h.cellAt (i * 6 + 3) (by omega), g3]
    · rw [Nat.zero_add, h.cellAt (i * 6 + 4) (by omega), g4]
    · rw [Nat.zero_add, h.cellAt (i * 6 + 5) (by omega), g5]
theorem c6owns_len {w : World} {base : Nat} {e : TypeId} {v : Value} {n : Nat} {l : List Q6} (h : w.ownsRow base e 6 v n (c6 l)) : l.length = n := by have := h.1; rw [length_c6] at this; omega

/-- The cells from 'ao' on hold the strings 'l'. -/
def StrsAt (w : World) (ao : Option Addr) (l : List ByteArray) : Prop :=
  ∀ i, i < l.length → ∃ b off, ao = some ⟨b, off, none⟩ ∧ w.cell? ⟨b, off + i, none⟩ = some (.string (l.getD i default))
theorem StrsAt.below {w w' : World} {ao : Option Addr} {l : List ByteArray} (h : StrsAt w ao l) (hb : Below w.heap.size w w') : StrsAt w' ao l := by
  intro i hi
  obtain ⟨b, off, ha, h1⟩ := h i hi
  exact ⟨b, off, ha, keep h1 hb⟩
/-- A slice of strings that can be read. -/
structure Strs (w : World) (ao : Option Addr) (n : Nat) (l : List ByteArray) : Prop where
  len : l.length = n
  reach : n * 16 ≤ 140737488351232
  at_ : StrsAt w ao l
theorem Strs.below {w w' : World} {ao : Option Addr} {n : Nat} {l : List ByteArray} (h : Strs w ao n l) (hb : Below w.heap.size w w') : Strs w' ao n l := ⟨h.len, h.reach, h.at_.below hb⟩
theorem Strs.nil (w : World) : Strs w none 0 [] := ⟨rfl, by omega, fun i hi => absurd hi (by simp)⟩
theorem Strs.at {w : World} {ao : Option Addr} {n : Nat} {l : List ByteArray} (h : Strs w ao n l) (k : Nat) (hk : k < n) : ∃ b off s, ao = some ⟨b, off, none⟩ ∧ w.cell? ⟨b, off + k * 1, none⟩ = some (.string s) ∧ Hid (l.getD k default = s) := by
  obtain ⟨b, off, ha, h1⟩ := h.at_ k (by have := h.len; omega)
  exact ⟨b, off, _, ha, by rw [Nat.mul_one]; exact h1, rfl⟩
/-- Strings as values. -/
def svals (l : List ByteArray) : List Value := l.map .string
theorem strs_of_owns {w : World} {base : Nat} {e : TypeId} {ao : Option Addr} {n cap : Nat} {l : List ByteArray} (h : w.ownsRow base e 1 (.slice ao n cap) n (svals l)) : StrsAt w ao l := by
  intro i hi
  have hl := h.1
  rw [svals, List.length_map] at hl
  rcases h.2 with ⟨h', h0⟩ | ⟨g, cap', cur, h', _, hg, _, _, _, htake⟩
  · omega
  · simp only [Value.slice.injEq] at h'
    obtain ⟨rfl, _, rfl⟩ := h'
    refine ⟨g, 0, rfl, ?_⟩
    rw [Nat.zero_add, h.cellAt i (by omega)]
    simp [svals, List.getD_eq_getElem?_getD, hi]

/-- A cache, plain: slabs by place, free objects and first one. -/
structure Ch where
  names : List ByteArray
  size : Int
  per : Int
  order : Int
  slabs : List Bk
  act : List Int
def Ch.zero : Ch := ⟨[], 0, 0, 0, [], []⟩
/-- The same as six cells: where its parts lie. -/
structure Cc where
  c : Ch
  no : Option Addr
  nn : Nat
  nc : Nat
  so : Option Addr
  sn : Nat
  sc : Nat
  ao : Option Addr
  an : Nat
  ac : Nat
def Cc.zero : Cc := ⟨.zero, none, 0, 0, none, 0, 0, none, 0, 0⟩
def Cc.q (x : Cc) : Q6 := ⟨.slice x.no x.nn x.nc, .int .i64 x.c.size, .int .i64 x.c.per, .int .i64 x.c.order, .slice x.so x.sn x.sc, .slice x.ao x.an x.ac⟩
theorem Cc.one (x : Cc) : x.q.One := ⟨rfl, rfl, rfl, rfl, rfl, rfl⟩
structure Cc.At (w : World) (x : Cc) : Prop where
  names : Strs w x.no x.nn x.c.names
  slabs : Blks w x.so x.sn x.c.slabs
  act : Nums w x.ao x.an x.c.act
theorem Cc.At.below {w w' : World} {x : Cc} (h : x.At w) (hb : Below w.heap.size w w') : x.At w' := ⟨h.names.below hb, h.slabs.below hb, h.act.below hb⟩
/-- A slice of caches that can be read. -/
structure Chs (w : World) (ao : Option Addr) (n : Nat) (l : List Cc) : Prop where
  len : l.length = n
  reach : n * 96 ≤ 140737488351232
  cells : C6At w ao (l.map Cc.q)
  at_ : ∀ x ∈ l, x.At w
theorem Chs.below {w w' : World} {ao : Option Addr} {n : Nat} {l : List Cc} (h : Chs w ao n l) (hb : Below w.heap.size w w') : Chs w' ao n l := ⟨h.len, h.reach, h.cells.below hb, fun x hx => (h.at_ x hx).below hb⟩
theorem Chs.nil (w : World) : Chs w none 0 [] := ⟨rfl, by omega, C6At.nil _ _, fun _ h => by cases h⟩
/-- One cache of a slice: its six cells. -/
theorem Chs.at {w : World} {ao : Option Addr} {n : Nat} {l : List Cc} (h : Chs w ao n l) (k : Nat) (hk : k < n) : ∃ b off names size per order slabs act no nn nc so sn sc aao an ac, ao = some ⟨b, off, none⟩ ∧ w.cell? ⟨b, off + k * 6, none⟩ = some (.slice no nn nc) ∧ w.cell? ⟨b, off + k * 6 + 1, none⟩ = some (.int .i64 size) ∧
    w.cell? ⟨b, off + k * 6 + 2, none⟩ = some (.int .i64 per) ∧ w.cell? ⟨b, off + k * 6 + 3, none⟩ = some (.int .i64 order) ∧ w.cell? ⟨b, off + k * 6 + 4, none⟩ = some (.slice so sn sc) ∧ w.cell? ⟨b, off + k * 6 + 5, none⟩ = some (.slice aao an ac) ∧ Strs w no nn names ∧ Blks w so sn slabs ∧ Nums w aao an act ∧ Hid (l.getD k .zero = ⟨⟨names, size, per, order, slabs, act⟩, no, nn, nc, so, sn, sc, aao, an, ac⟩) := by
  have hk' : k < l.length := by have := h.len; omega
  obtain ⟨b, off, ha, h0, h1, h2, h3, h4, h5⟩ := h.cells k (by simpa using hk')
  rw [getD_map l Cc.q k .zero _ hk'] at h0 h1 h2 h3 h4 h5
  have hat := h.at_ _ (getD_mem (d := Cc.zero) hk')
  exact ⟨b, off, _, _, _, _, _, _, _, _, _, _, _, _, _, _, _, ha, h0, h1, h2, h3, h4, h5, hat.names, hat.slabs, hat.act, rfl⟩

/-- A system, plain. -/
structure Sp where
  words : List Int
  h : Hp
  caches : List Ch
/-- A system with the places of its parts. -/
structure Sy where
  words : List Int
  wo : Option Addr
  wn : Nat
  wc : Nat
  h : Hx
  cs : List Cc
  co : Option Addr
  cn : Nat
  cc : Nat
def Sy.sp (x : Sy) : Sp := ⟨x.words, x.h.hp, x.cs.map (·.c)⟩
/-- It can be read. -/
structure Sy.At (w : World) (x : Sy) : Prop where
  words : Nums w x.wo x.wn x.words
  heap : x.h.At w
  caches : Chs w x.co x.cn x.cs
theorem Sy.At.below {w w' : World} {x : Sy} (h : x.At w) (hb : Below w.heap.size w w') : x.At w' := ⟨h.words.below hb, h.heap.below hb, h.caches.below hb⟩

end Go.Proofs.Ytnijjpakpphhhaa.Kit

/-
  OWN TEXT. How an argument that is a system (api.System) is opened for the walk, over whatever program.
-/
namespace Go.Proofs.Ytnijjpakpphhhaa.Kit
open Go Go.RowKit Go.ChangeShapes Go.WideShapes Go.ChangeAt Go.Joins Go.Deep

/-- The numbers of a cache are words; its names are no longer than memory. -/
structure Cc.Fits (x : Cc) : Prop where
  s : (Lit.int .i64 x.c.size).wf = true
  p : (Lit.int .i64 x.c.per).wf = true
  o : (Lit.int .i64 x.c.order).wf = true
  b : ∀ i, i < x.sn → (x.c.slabs.getD i .zero).Fits
  n : ∀ s ∈ x.c.names, s.size ≤ maxLen
/-- What the walk is told of a system that came in. -/
structure IsSys (w : World) (x : Sy) : Prop where
  words : Nums w x.wo x.wn x.words
  heap : IsHeap w x.h
  caches : Chs w x.co x.cn x.cs
  cf : ∀ c ∈ x.cs, c.Fits
theorem IsSys.at_ {w : World} {x : Sy} (h : IsSys w x) : x.At w := ⟨h.words, h.heap.at_, h.caches⟩

theorem trod_struct6 {H : Type} {enc : TypeId × Value → H} {P : Program} {w : World} {base : Nat} {spare : Nat → Bool} {held : Bool} {t : TypeId} {f0 f1 f2 f3 f4 f5 : Field} {fuel : Nat} {cs : List Value} {x : DataW H × List MemPlace} (ht : P.underlying t = some (.struct #[f0, f1, f2, f3, f4, f5])) (h : DataW.trod enc P w base spare held fuel t cs = some x) :
    ∃ y0 y1 y2 y3 y4 y5 n, x.1 = .agg [y0.1, y1.1, y2.1, y3.1, y4.1, y5.1] ∧ cs.length = P.cellsOf t ∧ DataW.trod enc P w base spare held n f0.type ((cs.drop f0.offset).take (P.cellsOf f0.type)) = some y0 ∧
      DataW.trod enc P w base spare held n f1.type ((cs.drop f1.offset).take (P.cellsOf f1.type)) = some y1 ∧ DataW.trod enc P w base spare held n f2.type ((cs.drop f2.offset).take (P.cellsOf f2.type)) = some y2 ∧
      DataW.trod enc P w base spare held n f3.type ((cs.drop f3.offset).take (P.cellsOf f3.type)) = some y3 ∧ DataW.trod enc P w base spare held n f4.type ((cs.drop f4.offset).take (P.cellsOf f4.type)) = some y4 ∧ DataW.trod enc P w base spare held n f5.type ((cs.drop f5.offset).take (P.cellsOf f5.type)) = some y5 := by
  obtain ⟨xs, n, _, rfl, hl, hlen, hf⟩ := DataW.trod_struct ht h
  match xs, hlen with
  | [y0, y1, y2, y3, y4, y5], _ => exact ⟨y0, y1, y2, y3, y4, y5, n, by simp, hl, by simpa using hf 0 f0 rfl, by simpa using hf 1 f1 rfl, by simpa using hf 2 f2 rfl, by simpa using hf 3 f3 rfl, by simpa using hf 4 f4 rfl, by simpa using hf 5 f5 rfl⟩

section
variable {H : Type} {enc : TypeId × Value → H} {P : Program} {W : World} {fuel : Nat} {v : Value} {y : DataW H × List MemPlace}
theorem open_strs {t e : TypeId} (ht : P.underlying t = some (.slice e)) (he : P.underlying e = some .string) (ce : P.cellsOf e = 1) (be : P.bytesOf e = 16)
    (hf : DataW.trod enc P W 0 (fun _ => true) true fuel t [v] = some y) (hs : Sized P t y.1) :
    ∃ ao n cap l, v = .slice ao n cap ∧ Strs W ao n l ∧ ∀ s ∈ l, s.size ≤ maxLen := by
  rcases open_slice ht hf with ⟨hcs, _⟩ | ⟨a, n, m0, m, fu, D, Pl, hcs, _, hl, hm, hmm, hx, hc⟩
  · simp only [List.cons.injEq, and_true] at hcs
    subst hcs
    exact ⟨none, 0, 0, [], rfl, Strs.nil _, fun _ h => by cases h⟩
  · simp only [List.cons.injEq, and_true] at hcs
    subst hcs
    simp only [if_true] at hmm
    subst hmm
    have hr := hx ▸ hs
    have hr2 := sized_sl hr ht
    rw [be] at hr2
    simp only [List.length_map, List.length_range, reachBytes] at hr2
    rw [ce] at hc
    have each : ∀ i, i < n → ∃ s : ByteArray, W.cell? (a.add i) = some (.string s) ∧ s.size ≤ maxLen := by
      intro i hi
      obtain ⟨cs', h1, h2⟩ := hc i (by omega)
      obtain ⟨_, hlen, hcell⟩ := World.cells?_some h1
      obtain ⟨s, rfl, _, hw⟩ := DataW.trod_string he h2
      have c0 := hcell 0 (by omega)
      rw [add_add] at c0
      exact ⟨s, by simpa using c0, hw⟩
    have inh : Inhabited ByteArray := ⟨default⟩
    obtain ⟨g, hg⟩ := choose_lt each
    refine ⟨some a, n, m, (List.range n).map g, rfl, ⟨by simp, by omega, ?_⟩, fun s hs => ?_⟩
    · intro i hi
      have hi' : i < n := by simpa using hi
      have d0 := (hg i hi').1
      obtain ⟨b, off, spot⟩ := a
      have hspot : spot = none := by
        have := World.cell?_spot (hg 0 (by omega)).1
        simpa [Addr.add] using this
      subst hspot
      rw [add_none] at d0
      exact ⟨b, off, rfl, by rw [d0]; simp [List.getD_eq_getElem?_getD, hi']⟩
    · rw [List.mem_map] at hs
      obtain ⟨i, hi, rfl⟩ := hs
      exact (hg i (List.mem_range.1 hi)).2

theorem open_caches {t ct st s bt b u i : TypeId} {g0 g1 g2 g3 g4 g5 f0 f1 f2 : Field}
    (ht : P.underlying t = some (.slice ct)) (hb : P.underlying ct = some (.struct #[g0, g1, g2, g3, g4, g5])) (hone : oneCellFields P #[g0, g1, g2, g3, g4, g5] = true) (cb : P.cellsOf ct = 6) (bb : P.bytesOf ct = 96) (t0 : g0.type = st) (t4 : g4.type = bt) (t5 : g5.type = u)
    (hst : P.underlying st = some (.slice s)) (hs1 : P.underlying s = some .string) (cs1 : P.cellsOf s = 1) (bs1 : P.bytesOf s = 16)
    (hbt : P.underlying bt = some (.slice b)) (he : P.underlying b = some (.struct #[f0, f1, f2])) (ce : P.cellsOf b = 3) (be : P.bytesOf b = 24) (hone2 : oneCellFields P #[f0, f1, f2] = true)
    (u0 : P.underlying f0.type = some (.int .i64)) (u1 : P.underlying f1.type = some (.int .i64)) (u2 : P.underlying f2.type = some (.int .i64))
    (hu : P.underlying u = some (.slice i)) (hi : P.underlying i = some (.int .i64)) (ci : P.cellsOf i = 1) (bi : P.bytesOf i = 8)
    (w1 : P.underlying g1.type = some (.int .i64)) (w2 : P.underlying g2.type = some (.int .i64)) (w3 : P.underlying g3.type = some (.int .i64))
    (hf : DataW.trod enc P W 0 (fun _ => true) true fuel t [v] = some y) (hs : Sized P t y.1) :
    ∃ ao n cap l, v = .slice ao n cap ∧ Chs W ao n l ∧ ∀ x ∈ l, x.Fits := by
  rcases open_slice ht hf with ⟨hcs, _⟩ | ⟨a, n, m0, m, fu, D, Pl, hcs, _, hl, hm, hmm, hx, hc⟩
  · simp only [List.cons.injEq, and_true] at hcs
    subst hcs
    exact ⟨none, 0, 0, [], rfl, Chs.nil _, fun _ h => by cases h⟩
  · simp only [List.cons.injEq, and_true] at hcs
    subst hcs
    simp only [if_true] at hmm
    subst hmm
    have hr := hx ▸ hs
    have hr2 := sized_sl hr ht
    rw [bb] at hr2
    simp only [List.length_map, List.length_range, reachBytes] at hr2
    rw [cb] at hc
    obtain ⟨o0, k0⟩ := hone_of hone 0 g0 rfl
    obtain ⟨o1, k1⟩ := hone_of hone 1 g1 rfl
    obtain ⟨o2, k2⟩ := hone_of hone 2 g2 rfl
    obtain ⟨o3, k3⟩ := hone_of hone 3 g3 rfl
    obtain ⟨o4, k4⟩ := hone_of hone 4 g4 rfl
    obtain ⟨o5, k5⟩ := hone_of hone 5 g5 rfl
    have each : ∀ i, i < n → ∃ r : Cc, r.At W ∧ r.Fits ∧ W.cell? (a.add (i * 6)) = some r.q.a ∧ W.cell? (a.add (i * 6 + 1)) = some r.q.b ∧ W.cell? (a.add (i * 6 + 2)) = some r.q.c ∧ W.cell? (a.add (i * 6 + 3)) = some r.q.d ∧ W.cell? (a.add (i * 6 + 4)) = some r.q.e ∧ W.cell? (a.add (i * 6 + 5)) = some r.q.f := by
      intro i hi
      obtain ⟨cs', h1, h2⟩ := hc i (by omega)
      obtain ⟨_, hlen, hcell⟩ := World.cells?_some h1
      obtain ⟨y0, y1, y2, y3, y4, y5, q, hD, _, q0, q1, q2, q3, q4, q5⟩ := trod_struct6 hb h2
      have hse : Sized P ct (D i) := sized_elem hr ht (by rw [List.mem_map]; exact ⟨i, List.mem_range.2 hi, rfl⟩)
      dsimp only at hD
      rw [hD] at hse
      have s0 : Sized P st y0.1 := sized_field hse hb (i := 0) (by simp [t0]) rfl
      have s4 : Sized P bt y4.1 := sized_field hse hb (i := 4) (by simp [t4]) rfl
      have s5 : Sized P u y5.1 := sized_field hse hb (i := 5) (by simp [t5]) rfl
      match cs', hlen with
      | [v0, v1, v2, v3, v4, v5], _ =>
        simp [o0, k0] at q0
        simp [o1, k1] at q1
        simp [o2, k2] at q2
        simp [o3, k3] at q3
        simp [o4, k4] at q4
        simp [o5, k5] at q5
        rw [t0] at q0
        rw [t4] at q4
        rw [t5] at q5
        obtain ⟨no, nn, nc, nl, rfl, hN, hNs⟩ := open_strs hst hs1 cs1 bs1 q0 s0
        obtain ⟨x1, e1, _, f1w⟩ := DataW.trod_int w1 q1
        obtain ⟨x2, e2, _, f2w⟩ := DataW.trod_int w2 q2
        obtain ⟨x3, e3, _, f3w⟩ := DataW.trod_int w3 q3
        simp only [List.cons.injEq, and_true] at e1 e2 e3
        subst e1 e2 e3
        obtain ⟨fo, fn, fc, fr, rfl, hF⟩ := open_blks hbt he ce be hone2 u0 u1 u2 q4 s4
        obtain ⟨to_, tn, tc, ty, rfl, hT⟩ := open_ints_in hu ‹_› ci bi q5 s5
        have c0 := hcell 0 (by omega)
        have c1 := hcell 1 (by omega)
        have c2 := hcell 2 (by omega)
        have c3 := hcell 3 (by omega)
        have c4 := hcell 4 (by omega)
        have c5 := hcell 5 (by omega)
        rw [add_add] at c0 c1 c2 c3 c4 c5
        exact ⟨⟨⟨nl, x1, x2, x3, fr, ty⟩, no, nn, nc, fo, fn, fc, to_, tn, tc⟩, ⟨hN, ⟨hF.len, by have := hF.reach; have := hF.le; show fn * 24 ≤ _; omega, hF.at_⟩, ⟨hT.len, by have := hT.reach; have := hT.le; show tn * 8 ≤ _; omega, hT.at_⟩⟩, ⟨f1w, f2w, f3w, hF.wf, hNs⟩,
          by simpa [Cc.q] using c0, by simpa [Cc.q] using c1, by simpa [Cc.q] using c2, by simpa [Cc.q] using c3, by simpa [Cc.q] using c4, by simpa [Cc.q] using c5⟩
    have inh : Inhabited Cc := ⟨Cc.zero⟩
    obtain ⟨g, hg⟩ := choose_lt each
    have hget : ∀ i, i < n → (((List.range n).map g).map Cc.q).getD i .zero = (g i).q := by
      intro i hi
      simp [List.getD_eq_getElem?_getD, hi]
    have hmem : ∀ x ∈ (List.range n).map g, ∃ i, i < n ∧ x = g i := by
      intro x hx
      rw [List.mem_map] at hx
      obtain ⟨i, hi, rfl⟩ := hx
      exact ⟨i, List.mem_range.1 hi, rfl⟩
    refine ⟨some a, n, m, (List.range n).map g, rfl, ⟨by simp, by omega, ?_, fun x hx => ?_⟩, fun x hx => ?_⟩
    · intro i hi
      have hi' : i < n := by simpa using hi
      obtain ⟨_, _, d0, d1, d2, d3, d4, d5⟩ := hg i hi'
      obtain ⟨b, off, spot⟩ := a
      have hspot : spot = none := by
        have := World.cell?_spot (hg 0 (by omega)).2.2.1
        simpa [Addr.add] using this
      subst hspot
      rw [add_none] at d0 d1 d2 d3 d4 d5
      rw [hget i hi']
      exact ⟨b, off, rfl, d0, by rw [Nat.add_assoc]; exact d1, by rw [Nat.add_assoc]; exact d2, by rw [Nat.add_assoc]; exact d3, by rw [Nat.add_assoc]; exact d4, by rw [Nat.add_assoc]; exact d5⟩
    · obtain ⟨i, hi, rfl⟩ := hmem x hx
      exact (hg i hi).1
    · obtain ⟨i, hi, rfl⟩ := hmem x hx
      exact (hg i hi).2.1
end

/-- The closed facts on the types that a system is made of. -/
structure SysTypes (P : Program) (syt ht ist it cst ct sst st slst slt : TypeId) : Prop where
  sys : ∃ f0 f1 f2 : Field, P.underlying syt = some (.struct #[f0, f1, f2]) ∧ f0.offset = 0 ∧ f1.offset = 1 ∧ f2.offset = 6 ∧ f0.type = ist ∧ f1.type = ht ∧ f2.type = cst
  sc : P.cellsOf syt = 7
  c0 : P.cellsOf ist = 1
  c2 : P.cellsOf cst = 1
  caches : P.underlying cst = some (.slice ct)
  cache : ∃ f0 f1 f2 f3 f4 f5 : Field, P.underlying ct = some (.struct #[f0, f1, f2, f3, f4, f5]) ∧ oneCellFields P #[f0, f1, f2, f3, f4, f5] = true ∧ f0.type = sst ∧ f1.type = it ∧ f2.type = it ∧ f3.type = it ∧ f4.type = slst ∧ f5.type = ist
  ccell : P.cellsOf ct = 6
  cbytes : P.bytesOf ct = 96
  strs : P.underlying sst = some (.slice st)
  str : P.underlying st = some .string
  scell : P.cellsOf st = 1
  sbytes : P.bytesOf st = 16
  slabs : P.underlying slst = some (.slice slt)
  slab : ∃ f0 f1 f2 : Field, P.underlying slt = some (.struct #[f0, f1, f2]) ∧ oneCellFields P #[f0, f1, f2] = true ∧ f0.type = it ∧ f1.type = it ∧ f2.type = it
  lcell : P.cellsOf slt = 3
  lbytes : P.bytesOf slt = 24

theorem array7 {α : Type} {cs : Array α} (h : cs.size = 7) : ∃ c0 c1 c2 c3 c4 c5 c6, cs = #[c0, c1, c2, c3, c4, c5, c6] := by
  obtain ⟨l⟩ := cs
  match l, h with
  | [c0, c1, c2, c3, c4, c5, c6], _ => exact ⟨c0, c1, c2, c3, c4, c5, c6, rfl⟩

theorem open_heap_cells {H : Type} {enc : TypeId × Value → H} {P : Program} {W : World} {ht zst zt bst bt ist it lst lt : TypeId} (T : HeapTypes P ht zst zt bst bt ist it lst lt) {fuel : Nat} {v0 v1 v2 v3 v4 : Value} {y : DataW H × List MemPlace}
    (hf : DataW.trod enc P W 0 (fun _ => true) true fuel ht [v0, v1, v2, v3, v4] = some y) (hs : Sized P ht y.1) :
    ∃ x : Hx, v0 = .slice x.zo x.zn x.zc ∧ v1 = .slice x.mo x.mn x.mc ∧ v2 = .int .i64 x.cpus ∧ v3 = .slice x.lo x.ln x.lc ∧ v4 = .slice x.vo x.vn x.vc ∧ IsHeap W x := by
  obtain ⟨f0, f1, f2, f3, f4, a1, hone, a3, a4, a5, a6, a7⟩ := T.heap
  obtain ⟨xs, n, _, rfl, hl, hlen, hx⟩ := DataW.trod_struct a1 hf
  obtain ⟨o0, k0⟩ := hone_of hone 0 f0 rfl
  obtain ⟨o1, k1⟩ := hone_of hone 1 f1 rfl
  obtain ⟨o2, k2⟩ := hone_of hone 2 f2 rfl
  obtain ⟨o3, k3⟩ := hone_of hone 3 f3 rfl
  obtain ⟨o4, k4⟩ := hone_of hone 4 f4 rfl
  match xs, hlen with
  | [y0, y1, y2, y3, y4], _ =>
    have h0 : DataW.trod enc P W 0 (fun _ => true) true n f0.type [v0] = some y0 := by simpa [o0, k0] using hx 0 f0 rfl
    have h1 : DataW.trod enc P W 0 (fun _ => true) true n f1.type [v1] = some y1 := by simpa [o1, k1] using hx 1 f1 rfl
    have h2 : DataW.trod enc P W 0 (fun _ => true) true n f2.type [v2] = some y2 := by simpa [o2, k2] using hx 2 f2 rfl
    have h3 : DataW.trod enc P W 0 (fun _ => true) true n f3.type [v3] = some y3 := by simpa [o3, k3] using hx 3 f3 rfl
    have h4 : DataW.trod enc P W 0 (fun _ => true) true n f4.type [v4] = some y4 := by simpa [o4, k4] using hx 4 f4 rfl
    have s0 : Sized P zst y0.1 := sized_field hs a1 (i := 0) (by simp [a3]) rfl
    have s1 : Sized P ist y1.1 := sized_field hs a1 (i := 1) (by simp [a4]) rfl
    have s3 : Sized P lst y3.1 := sized_field hs a1 (i := 3) (by simp [a6]) rfl
    have s4 : Sized P bst y4.1 := sized_field hs a1 (i := 4) (by simp [a7]) rfl
    rw [a3] at h0
    rw [a4] at h1
    rw [a5] at h2
    rw [a6] at h3
    rw [a7] at h4
    exact open_heap_in T h0 h1 h2 h3 h4 s0 s1 s3 s4

/-- The values of a system's seven cells. -/
def Sy.vals (x : Sy) : List Value := [.slice x.wo x.wn x.wc, .slice x.h.zo x.h.zn x.h.zc, .slice x.h.mo x.h.mn x.h.mc, .int .i64 x.h.cpus, .slice x.h.lo x.h.ln x.h.lc, .slice x.h.vo x.h.vn x.h.vc, .slice x.co x.cn x.cc]
theorem open_sys_arg {H : Type} {enc : TypeId × Value → H} {P : Program} {W : World} {base : Nat} {syt cst ct sst st slst slt ht zst zt bst bt ist it lst lt : TypeId} (T : HeapTypes P ht zst zt bst bt ist it lst lt) (S : SysTypes P syt ht ist it cst ct sst st slst slt) {v : Value} {d : DataW H} {p : List MemPlace}
    (hv : Value.okWide P W .any base syt v) (h : DataW.Trod enc P W 0 (fun _ => true) true syt v d p) (hs : Sized P syt d) :
    ∃ x : Sy, v = .agg #[.slice x.wo x.wn x.wc, .slice x.h.zo x.h.zn x.h.zc, .slice x.h.mo x.h.mn x.h.mc, .int .i64 x.h.cpus, .slice x.h.lo x.h.ln x.h.lc, .slice x.h.vo x.h.vn x.h.vc, .slice x.co x.cn x.cc] ∧ IsSys W x := by
  obtain ⟨f0, f1, f2, a1, o0, o1, o2, a3, a4, a5⟩ := S.sys
  obtain ⟨cs, rfl, hsz⟩ := okWide_struct a1 hv
  obtain ⟨c0, c1, c2, c3, c4, c5, c6, rfl⟩ := array7 (hsz.trans S.sc)
  obtain ⟨fuel, hf⟩ := h
  obtain ⟨xs, n, _, hD, hl, hlen, hx⟩ := DataW.trod_struct a1 hf
  simp only [Prod.mk.injEq] at hD
  match xs, hlen with
  | [y0, y1, y2], _ =>
    obtain ⟨hD, _⟩ := hD
    subst hD
    have h0 : DataW.trod enc P W 0 (fun _ => true) true n ist [c0] = some y0 := by simpa [Value.cells, o0, a3, S.c0] using hx 0 f0 rfl
    have h1 : DataW.trod enc P W 0 (fun _ => true) true n ht [c1, c2, c3, c4, c5] = some y1 := by simpa [Value.cells, o1, a4, T.hc] using hx 1 f1 rfl
    have h2 : DataW.trod enc P W 0 (fun _ => true) true n cst [c6] = some y2 := by simpa [Value.cells, o2, a5, S.c2] using hx 2 f2 rfl
    have s0 : Sized P ist y0.1 := sized_field hs a1 (i := 0) (by simp [a3]) rfl
    have s1 : Sized P ht y1.1 := sized_field hs a1 (i := 1) (by simp [a4]) rfl
    have s2 : Sized P cst y2.1 := sized_field hs a1 (i := 2) (by simp [a5]) rfl
    obtain ⟨wo, wn, wc, ws, rfl, hW⟩ := open_ints_in T.ints T.int T.icell T.ibytes h0 s0
    obtain ⟨hx', rfl, rfl, rfl, rfl, rfl, hH⟩ := open_heap_cells T h1 s1
    obtain ⟨g0, g1, g2, g3, g4, g5, b1, b2, b3, b4, b5, b6, b7, b8⟩ := S.cache
    obtain ⟨l0, l1, l2, d1, d2, d3, d4, d5⟩ := S.slab
    obtain ⟨co, cn, cc, cl, rfl, hC, hCf⟩ := open_caches S.caches b1 b2 S.ccell S.cbytes b3 b7 b8 S.strs S.str S.scell S.sbytes S.slabs d1 S.lcell S.lbytes d2 (by rw [d3]; exact T.int) (by rw [d4]; exact T.int) (by rw [d5]; exact T.int) T.ints T.int T.icell T.ibytes (by rw [b4]; exact T.int) (by rw [b5]; exact T.int) (by rw [b6]; exact T.int) h2 s2
    exact ⟨⟨ws, wo, wn, wc, hx', cl, co, cn, cc⟩, rfl, ⟨⟨hW.len, by have := hW.reach; have := hW.le; show wn * 8 ≤ _; omega, hW.at_⟩, hH, hC, hCf⟩⟩

end Go.Proofs.Ytnijjpakpphhhaa.Kit

/-
  OWN TEXT. Closed facts on the type int.
-/
namespace Go.Proofs.Ytnijjpakpphhhaa
open Go Go.RowKit Go.Proofs.Ytnijjpakpphhhaa.Kit

theorem info_int : (Try.prog.info? 3).map (fun i => (i.zero, i.size, i.bytes)) = some (some (.int .i64 0), 1, 8) := by kernel_rfl
theorem size_int : (Try.prog.info? 3).map (·.size) = some 1 := by kernel_rfl

end Go.Proofs.Ytnijjpakpphhhaa

/-
  OWN TEXT. A zone or none is returned, and a code.
-/
namespace Go.Proofs.Ytnijjpakpphhhaa.Kit
open Go Go.RowKit

/-- A zone is returned, and a code. -/
def RetAny (w' : World) (Z : Zn) (c : Int) (e : Ending) : Prop :=
  ∃ fo fn fc to_ tn tc, e = .returned (.tuple #[.agg #[.int .i64 Z.f, .int .i64 Z.t, .slice fo fn fc, .slice to_ tn tc], .int .i64 c]) ∧ ZnAt w' fo fn to_ tn Z
/-- A zone in new memory is returned. -/
def RetZ (B : Nat) (w' : World) (z : Zn) (e : Ending) : Prop :=
  ∃ fo fn fc to_ tn tc, e = .returned (.agg #[.int .i64 z.f, .int .i64 z.t, .slice fo fn fc, .slice to_ tn tc]) ∧ ZnAt w' fo fn to_ tn z ∧ Fresh B fo ∧ Fresh B to_

theorem RetZone.any {B : Nat} {w' : World} {Z : Zn} {e : Ending} (h : RetZone B w' Z e) : RetAny w' Z 0 e := by
  obtain ⟨fo, fn, fc, to_, tn, tc, he, hz, _, _⟩ := h
  exact ⟨fo, fn, fc, to_, tn, tc, he, hz⟩
theorem RetNone.any {c : Int} {w' : World} {e : Ending} (h : RetNone c e) : RetAny w' ⟨0, 0, [], []⟩ c e :=
  ⟨none, 0, 0, none, 0, 0, h, ⟨Blks.nil _, Nums.nil _⟩⟩

end Go.Proofs.Ytnijjpakpphhhaa.Kit

/-
  OWN TEXT. Closed facts on the type api.Block.
-/
namespace Go.Proofs.Ytnijjpakpphhhaa
open Go Go.RowKit Go.Proofs.Ytnijjpakpphhhaa.Kit

theorem info_block : (Try.prog.info? 72).map (fun i => (i.zero, i.size, i.bytes)) = some (some (.agg #[.int .i64 0, .int .i64 0, .int .i64 0]), 3, 24) := by kernel_rfl

theorem size_block : (Try.prog.info? 72).map (·.size) = some 3 := by kernel_rfl

end Go.Proofs.Ytnijjpakpphhhaa

/-
  OWN TEXT. Closed facts on the types of a heap.
-/
namespace Go.Proofs.Ytnijjpakpphhhaa
open Go Go.RowKit Go.Proofs.Ytnijjpakpphhhaa.Kit

theorem info_zone : (Try.prog.info? 70).map (fun i => (i.zero, i.size, i.bytes)) = some (some (.agg #[.int .i64 0, .int .i64 0, .slice none 0 0, .slice none 0 0]), 4, 64) := by kernel_rfl
theorem info_list : (Try.prog.info? 77).map (fun i => (i.zero, i.size, i.bytes)) = some (some (.agg #[.int .i64 0, .int .i64 0, .int .i64 0, .slice none 0 0]), 4, 48) := by kernel_rfl
theorem size_zone : (Try.prog.info? 70).map (·.size) = some 4 := by kernel_rfl
theorem size_list : (Try.prog.info? 77).map (·.size) = some 4 := by kernel_rfl

theorem heapTypes : HeapTypes Try.prog 27 23 70 25 72 22 3 24 77 where
  heap := ⟨_, _, _, _, _, Try.underlying27, by kernel_rfl, rfl, rfl, rfl, rfl, rfl⟩
  hc := by kernel_rfl
  zones := Try.underlying23
  zone := ⟨_, _, _, _, Try.underlying70, by kernel_rfl, rfl, rfl, rfl, rfl⟩
  zcell := by kernel_rfl
  zbytes := by kernel_rfl
  blocks := Try.underlying25
  block := ⟨_, _, _, Try.underlying72, by kernel_rfl, rfl, rfl, rfl⟩
  bcell := by kernel_rfl
  bbytes := by kernel_rfl
  ints := Try.underlying22
  int := Try.underlying3
  icell := by kernel_rfl
  ibytes := by kernel_rfl
  lists := Try.underlying24
  list := ⟨_, _, _, _, Try.underlying77, by kernel_rfl, rfl, rfl, rfl, rfl⟩
  lcell := by kernel_rfl
  lbytes := by kernel_rfl

end Go.Proofs.Ytnijjpakpphhhaa
