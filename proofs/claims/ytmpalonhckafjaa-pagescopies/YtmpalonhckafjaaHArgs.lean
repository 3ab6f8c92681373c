/-
  OWN TEXT. How an argument that is a heap of pages (api.Heap) is opened for the walk, over whatever program.
-/
import Derived.Test.YtmpalonhckafjaaZArgs
import Derived.Test.YtmpalonhckafjaaHKit
namespace Go.Proofs.Ytmpalonhckafjaa.Kit
open Go Go.RowKit Go.ChangeShapes Go.WideShapes Go.ChangeAt Go.Joins Go.Deep

theorem sized_elem {H : Type} {P : Program} {t e : TypeId} {elems spare : List (DataW H)} {d : DataW H} (h : Sized P t (.slice elems spare)) (ht : P.underlying t = some (.slice e)) (hd : d ∈ elems) : Sized P e d := by
  have hall : ∀ (l : List (DataW H)), d ∈ l → ∀ n ∈ d.weights P e, n ∈ DataW.weightsAll P e l := by
    intro l
    induction l with
    | nil => intro h; cases h
    | cons x l ih =>
      intro hx n hn
      simp only [DataW.weightsAll, List.mem_append]
      rcases List.mem_cons.1 hx with rfl | hx
      · exact .inl hn
      · exact .inr (ih hx n hn)
  intro n hn
  apply h
  simp only [DataW.weights, ht, List.mem_cons, List.mem_append]
  exact .inr (.inl (hall _ hd n hn))

/-- The numbers of a zone are words. -/
structure Lc.Fits (x : Lc) : Prop where
  c : (Lit.int .i64 x.l.c).wf = true
  z : (Lit.int .i64 x.l.z).wf = true
  t : (Lit.int .i64 x.l.t).wf = true

/-- What the walk is told of a heap that came in. -/
structure IsHeap (w : World) (x : Hx) : Prop where
  at_ : x.At w
  zf : ∀ z ∈ x.zs, ZFits z.z
  lf : ∀ l ∈ x.ls, l.Fits
  vf : ∀ i, i < x.vn → (x.live.getD i .zero).Fits
  cf : (Lit.int .i64 x.cpus).wf = true

theorem add_none {b off j : Nat} : (⟨b, off, none⟩ : Addr).add j = ⟨b, off + j, none⟩ := by unfold Addr.add; split <;> simp_all

section
variable {H : Type} {enc : TypeId × Value → H} {P : Program} {W : World} {fuel : Nat} {v : Value} {y : DataW H × List MemPlace}
theorem open_zones {t e zt bt u i : TypeId} {g0 g1 g2 g3 f0 f1 f2 : Field}
    (ht : P.underlying t = some (.slice zt)) (hb : P.underlying zt = some (.struct #[g0, g1, g2, g3])) (hone : oneCellFields P #[g0, g1, g2, g3] = true) (cb : P.cellsOf zt = 4) (bb : P.bytesOf zt = 64) (t2 : g2.type = bt) (t3 : g3.type = u)
    (hbt : P.underlying bt = some (.slice e)) (he : P.underlying e = some (.struct #[f0, f1, f2])) (ce : P.cellsOf e = 3) (be : P.bytesOf e = 24) (hone2 : oneCellFields P #[f0, f1, f2] = true)
    (u0 : P.underlying f0.type = some (.int .i64)) (u1 : P.underlying f1.type = some (.int .i64)) (u2 : P.underlying f2.type = some (.int .i64))
    (hu : P.underlying u = some (.slice i)) (hi : P.underlying i = some (.int .i64)) (ci : P.cellsOf i = 1) (bi : P.bytesOf i = 8)
    (w0 : P.underlying g0.type = some (.int .i64)) (w1 : P.underlying g1.type = some (.int .i64))
    (hf : DataW.trod enc P W 0 (fun _ => true) true fuel t [v] = some y) (hs : Sized P t y.1) :
    ∃ ao n cap l, v = .slice ao n cap ∧ Zons W ao n l ∧ ∀ x ∈ l, ZFits x.z := by
  rcases open_slice ht hf with ⟨hcs, _⟩ | ⟨a, n, m0, m, fu, D, Pl, hcs, _, hl, hm, hmm, hx, hc⟩
  · simp only [List.cons.injEq, and_true] at hcs
    subst hcs
    exact ⟨none, 0, 0, [], rfl, Zons.nil _, fun _ h => by cases h⟩
  · simp only [List.cons.injEq, and_true] at hcs
    subst hcs
    simp only [if_true] at hmm
    subst hmm
    have hr := hx ▸ hs
    have hr2 := sized_sl hr ht
    rw [bb] at hr2
    simp only [List.length_map, List.length_range, reachBytes] at hr2
    rw [cb] at hc
    obtain ⟨o0, k0⟩ := hone_of hone 0 g0 rfl
    obtain ⟨o1, k1⟩ := hone_of hone 1 g1 rfl
    obtain ⟨o2, k2⟩ := hone_of hone 2 g2 rfl
    obtain ⟨o3, k3⟩ := hone_of hone 3 g3 rfl
    have each : ∀ i, i < n → ∃ r : Zc, r.At W ∧ ZFits r.z ∧ W.cell? (a.add (i * 4)) = some r.q.a ∧ W.cell? (a.add (i * 4 + 1)) = some r.q.b ∧ W.cell? (a.add (i * 4 + 2)) = some r.q.c ∧ W.cell? (a.add (i * 4 + 3)) = some r.q.d := by
      intro i hi
      obtain ⟨cs', h1, h2⟩ := hc i (by omega)
      obtain ⟨_, hlen, hcell⟩ := World.cells?_some h1
      obtain ⟨y0, y1, y2, y3, q, hD, _, q0, q1, q2, q3⟩ := trod_struct4 hb h2
      have hse : Sized P zt (D i) := sized_elem hr ht (by rw [List.mem_map]; exact ⟨i, List.mem_range.2 hi, rfl⟩)
      simp only [Prod.mk.injEq] at hD
      rw [hD.1] at hse
      have s2 : Sized P bt y2.1 := sized_field hse hb (i := 2) (by simp [t2]) rfl
      have s3 : Sized P u y3.1 := sized_field hse hb (i := 3) (by simp [t3]) rfl
      match cs', hlen with
      | [v0, v1, v2, v3], _ =>
        simp [o0, k0] at q0
        simp [o1, k1] at q1
        simp [o2, k2] at q2
        simp [o3, k3] at q3
        rw [t2] at q2
        rw [t3] at q3
        obtain ⟨x0, e0, _, f0w⟩ := DataW.trod_int w0 q0
        obtain ⟨x1, e1, _, f1w⟩ := DataW.trod_int w1 q1
        simp only [List.cons.injEq, and_true] at e0 e1
        subst e0 e1
        obtain ⟨fo, fn, fc, fr, rfl, hF⟩ := open_blks hbt he ce be hone2 u0 u1 u2 q2 s2
        obtain ⟨to_, tn, tc, ty, rfl, hT⟩ := open_ints_in hu ‹_› ci bi q3 s3
        have c0 := hcell 0 (by omega)
        have c1 := hcell 1 (by omega)
        have c2 := hcell 2 (by omega)
        have c3 := hcell 3 (by omega)
        rw [add_add] at c0 c1 c2 c3
        have hz : IsZone W fo fn fc to_ tn tc ⟨x0, x1, fr, ty⟩ := ⟨hF, hT, f0w, f1w⟩
        exact ⟨⟨⟨x0, x1, fr, ty⟩, fo, fn, fc, to_, tn, tc⟩, hz.zn, hz.fits, by simpa [Zc.q] using c0, by simpa [Zc.q] using c1, by simpa [Zc.q] using c2, by simpa [Zc.q] using c3⟩
    have inh : Inhabited Zc := ⟨Zc.zero⟩
    obtain ⟨g, hg⟩ := choose_lt each
    have hget : ∀ i, i < n → (((List.range n).map g).map Zc.q).getD i .zero = (g i).q := by
      intro i hi
      simp [List.getD_eq_getElem?_getD, hi]
    have hmem : ∀ x ∈ (List.range n).map g, ∃ i, i < n ∧ x = g i := by
      intro x hx
      rw [List.mem_map] at hx
      obtain ⟨i, hi, rfl⟩ := hx
      exact ⟨i, List.mem_range.1 hi, rfl⟩
    refine ⟨some a, n, m, (List.range n).map g, rfl, ⟨by simp, by omega, ?_, fun x hx => ?_⟩, fun x hx => ?_⟩
    · intro i hi
      have hi' : i < n := by simpa using hi
      obtain ⟨_, _, d0, d1, d2, d3⟩ := hg i hi'
      obtain ⟨b, off, spot⟩ := a
      have hspot : spot = none := by
        have := World.cell?_spot (hg 0 (by omega)).2.2.1
        simpa [Addr.add] using this
      subst hspot
      rw [add_none] at d0 d1 d2 d3
      rw [hget i hi']
      exact ⟨b, off, rfl, d0, by rw [Nat.add_assoc]; exact d1, by rw [Nat.add_assoc]; exact d2, by rw [Nat.add_assoc]; exact d3⟩
    · obtain ⟨i, hi, rfl⟩ := hmem x hx
      exact (hg i hi).1
    · obtain ⟨i, hi, rfl⟩ := hmem x hx
      exact (hg i hi).2.1

theorem open_lists {t lt u i : TypeId} {g0 g1 g2 g3 : Field}
    (ht : P.underlying t = some (.slice lt)) (hb : P.underlying lt = some (.struct #[g0, g1, g2, g3])) (hone : oneCellFields P #[g0, g1, g2, g3] = true) (cb : P.cellsOf lt = 4) (bb : P.bytesOf lt = 48) (t3 : g3.type = u)
    (hu : P.underlying u = some (.slice i)) (hi : P.underlying i = some (.int .i64)) (ci : P.cellsOf i = 1) (bi : P.bytesOf i = 8)
    (w0 : P.underlying g0.type = some (.int .i64)) (w1 : P.underlying g1.type = some (.int .i64)) (w2 : P.underlying g2.type = some (.int .i64))
    (hf : DataW.trod enc P W 0 (fun _ => true) true fuel t [v] = some y) (hs : Sized P t y.1) :
    ∃ ao n cap l, v = .slice ao n cap ∧ Lsts W ao n l ∧ ∀ x ∈ l, x.Fits := by
  rcases open_slice ht hf with ⟨hcs, _⟩ | ⟨a, n, m0, m, fu, D, Pl, hcs, _, hl, hm, hmm, hx, hc⟩
  · simp only [List.cons.injEq, and_true] at hcs
    subst hcs
    exact ⟨none, 0, 0, [], rfl, Lsts.nil _, fun _ h => by cases h⟩
  · simp only [List.cons.injEq, and_true] at hcs
    subst hcs
    simp only [if_true] at hmm
    subst hmm
    have hr := hx ▸ hs
    have hr2 := sized_sl hr ht
    rw [bb] at hr2
    simp only [List.length_map, List.length_range, reachBytes] at hr2
    rw [cb] at hc
    obtain ⟨o0, k0⟩ := hone_of hone 0 g0 rfl
    obtain ⟨o1, k1⟩ := hone_of hone 1 g1 rfl
    obtain ⟨o2, k2⟩ := hone_of hone 2 g2 rfl
    obtain ⟨o3, k3⟩ := hone_of hone 3 g3 rfl
    have each : ∀ i, i < n → ∃ r : Lc, r.At W ∧ r.Fits ∧ W.cell? (a.add (i * 4)) = some r.q.a ∧ W.cell? (a.add (i * 4 + 1)) = some r.q.b ∧ W.cell? (a.add (i * 4 + 2)) = some r.q.c ∧ W.cell? (a.add (i * 4 + 3)) = some r.q.d := by
      intro i hi
      obtain ⟨cs', h1, h2⟩ := hc i (by omega)
      obtain ⟨_, hlen, hcell⟩ := World.cells?_some h1
      obtain ⟨y0, y1, y2, y3, q, hD, _, q0, q1, q2, q3⟩ := trod_struct4 hb h2
      have hse : Sized P lt (D i) := sized_elem hr ht (by rw [List.mem_map]; exact ⟨i, List.mem_range.2 hi, rfl⟩)
      simp only [Prod.mk.injEq] at hD
      rw [hD.1] at hse
      have s3 : Sized P u y3.1 := sized_field hse hb (i := 3) (by simp [t3]) rfl
      match cs', hlen with
      | [v0, v1, v2, v3], _ =>
        simp [o0, k0] at q0
        simp [o1, k1] at q1
        simp [o2, k2] at q2
        simp [o3, k3] at q3
        rw [t3] at q3
        obtain ⟨x0, e0, _, f0w⟩ := DataW.trod_int w0 q0
        obtain ⟨x1, e1, _, f1w⟩ := DataW.trod_int w1 q1
        obtain ⟨x2, e2, _, f2w⟩ := DataW.trod_int w2 q2
        simp only [List.cons.injEq, and_true] at e0 e1 e2
        subst e0 e1 e2
        obtain ⟨to_, tn, tc, ty, rfl, hT⟩ := open_ints_in hu ‹_› ci bi q3 s3
        have c0 := hcell 0 (by omega)
        have c1 := hcell 1 (by omega)
        have c2 := hcell 2 (by omega)
        have c3 := hcell 3 (by omega)
        rw [add_add] at c0 c1 c2 c3
        exact ⟨⟨⟨x0, x1, x2, ty⟩, to_, tn, tc⟩, ⟨hT.len, by have := hT.reach; have := hT.le; show tn * 8 ≤ _; omega, hT.at_⟩, ⟨f0w, f1w, f2w⟩, by simpa [Lc.q] using c0, by simpa [Lc.q] using c1, by simpa [Lc.q] using c2, by simpa [Lc.q] using c3⟩
    have inh : Inhabited Lc := ⟨Lc.zero⟩
    obtain ⟨g, hg⟩ := choose_lt each
    have hget : ∀ i, i < n → (((List.range n).map g).map Lc.q).getD i .zero = (g i).q := by
      intro i hi
      simp [List.getD_eq_getElem?_getD, hi]
    have hmem : ∀ x ∈ (List.range n).map g, ∃ i, i < n ∧ x = g i := by
      intro x hx
      rw [List.mem_map] at hx
      obtain ⟨i, hi, rfl⟩ := hx
      exact ⟨i, List.mem_range.1 hi, rfl⟩
    refine ⟨some a, n, m, (List.range n).map g, rfl, ⟨by simp, by omega, ?_, fun x hx => ?_⟩, fun x hx => ?_⟩
    · intro i hi
      have hi' : i < n := by simpa using hi
      obtain ⟨_, _, d0, d1, d2, d3⟩ := hg i hi'
      obtain ⟨b, off, spot⟩ := a
      have hspot : spot = none := by
        have := World.cell?_spot (hg 0 (by omega)).2.2.1
        simpa [Addr.add] using this
      subst hspot
      rw [add_none] at d0 d1 d2 d3
      rw [hget i hi']
      exact ⟨b, off, rfl, d0, by rw [Nat.add_assoc]; exact d1, by rw [Nat.add_assoc]; exact d2, by rw [Nat.add_assoc]; exact d3⟩
    · obtain ⟨i, hi, rfl⟩ := hmem x hx
      exact (hg i hi).1
    · obtain ⟨i, hi, rfl⟩ := hmem x hx
      exact (hg i hi).2.1
end

theorem array5 {α : Type} {cs : Array α} (h : cs.size = 5) : ∃ c0 c1 c2 c3 c4, cs = #[c0, c1, c2, c3, c4] := by
  obtain ⟨l⟩ := cs
  match l, h with
  | [c0, c1, c2, c3, c4], _ => exact ⟨c0, c1, c2, c3, c4, rfl⟩

theorem open_agg5 {H : Type} {enc : TypeId × Value → H} {P : Program} {W : World} {base : Nat} {t : TypeId} {f0 f1 f2 f3 f4 : Field} {v : Value} {d : DataW H} {p : List MemPlace}
    (hs : P.underlying t = some (.struct #[f0, f1, f2, f3, f4])) (hone : oneCellFields P #[f0, f1, f2, f3, f4] = true) (hC : P.cellsOf t = 5)
    (hv : Value.okWide P W .any base t v) (h : DataW.Trod enc P W 0 (fun _ => true) true t v d p) :
    ∃ (v0 v1 v2 v3 v4 : Value) (y0 y1 y2 y3 y4 : DataW H × List MemPlace) (n : Nat), v = .agg #[v0, v1, v2, v3, v4] ∧ d = .agg [y0.1, y1.1, y2.1, y3.1, y4.1] ∧
      DataW.trod enc P W 0 (fun _ => true) true n f0.type [v0] = some y0 ∧ DataW.trod enc P W 0 (fun _ => true) true n f1.type [v1] = some y1 ∧ DataW.trod enc P W 0 (fun _ => true) true n f2.type [v2] = some y2 ∧ DataW.trod enc P W 0 (fun _ => true) true n f3.type [v3] = some y3 ∧ DataW.trod enc P W 0 (fun _ => true) true n f4.type [v4] = some y4 := by
  obtain ⟨cs, rfl, hsz⟩ := okWide_struct hs hv
  obtain ⟨c0, c1, c2, c3, c4, rfl⟩ := array5 (hsz.trans hC)
  obtain ⟨fuel, hf⟩ := h
  obtain ⟨xs, n, _, hD, hl, hlen, hx⟩ := DataW.trod_struct hs hf
  simp only [Prod.mk.injEq] at hD
  obtain ⟨o0, k0⟩ := hone_of hone 0 f0 rfl
  obtain ⟨o1, k1⟩ := hone_of hone 1 f1 rfl
  obtain ⟨o2, k2⟩ := hone_of hone 2 f2 rfl
  obtain ⟨o3, k3⟩ := hone_of hone 3 f3 rfl
  obtain ⟨o4, k4⟩ := hone_of hone 4 f4 rfl
  match xs, hlen with
  | [y0, y1, y2, y3, y4], _ =>
    have h0 := hx 0 f0 rfl
    have h1 := hx 1 f1 rfl
    have h2 := hx 2 f2 rfl
    have h3 := hx 3 f3 rfl
    have h4 := hx 4 f4 rfl
    exact ⟨c0, c1, c2, c3, c4, y0, y1, y2, y3, y4, n, rfl, by simpa using hD.1, by simpa [Value.cells, o0, k0] using h0, by simpa [Value.cells, o1, k1] using h1, by simpa [Value.cells, o2, k2] using h2, by simpa [Value.cells, o3, k3] using h3, by simpa [Value.cells, o4, k4] using h4⟩

/-- The closed facts on the types that a heap is made of. -/
structure HeapTypes (P : Program) (ht zst zt bst bt ist it lst lt : TypeId) : Prop where
  heap : ∃ f0 f1 f2 f3 f4 : Field, P.underlying ht = some (.struct #[f0, f1, f2, f3, f4]) ∧ oneCellFields P #[f0, f1, f2, f3, f4] = true ∧ f0.type = zst ∧ f1.type = ist ∧ f2.type = it ∧ f3.type = lst ∧ f4.type = bst
  hc : P.cellsOf ht = 5
  zones : P.underlying zst = some (.slice zt)
  zone : ∃ f0 f1 f2 f3 : Field, P.underlying zt = some (.struct #[f0, f1, f2, f3]) ∧ oneCellFields P #[f0, f1, f2, f3] = true ∧ f0.type = it ∧ f1.type = it ∧ f2.type = bst ∧ f3.type = ist
  zcell : P.cellsOf zt = 4
  zbytes : P.bytesOf zt = 64
  blocks : P.underlying bst = some (.slice bt)
  block : ∃ f0 f1 f2 : Field, P.underlying bt = some (.struct #[f0, f1, f2]) ∧ oneCellFields P #[f0, f1, f2] = true ∧ f0.type = it ∧ f1.type = it ∧ f2.type = it
  bcell : P.cellsOf bt = 3
  bbytes : P.bytesOf bt = 24
  ints : P.underlying ist = some (.slice it)
  int : P.underlying it = some (.int .i64)
  icell : P.cellsOf it = 1
  ibytes : P.bytesOf it = 8
  lists : P.underlying lst = some (.slice lt)
  list : ∃ f0 f1 f2 f3 : Field, P.underlying lt = some (.struct #[f0, f1, f2, f3]) ∧ oneCellFields P #[f0, f1, f2, f3] = true ∧ f0.type = it ∧ f1.type = it ∧ f2.type = it ∧ f3.type = ist
  lcell : P.cellsOf lt = 4
  lbytes : P.bytesOf lt = 48

theorem open_heap_in {H : Type} {enc : TypeId × Value → H} {P : Program} {W : World} {ht zst zt bst bt ist it lst lt : TypeId} (T : HeapTypes P ht zst zt bst bt ist it lst lt) {n : Nat} {v0 v1 v2 v3 v4 : Value} {y0 y1 y2 y3 y4 : DataW H × List MemPlace}
    (h0 : DataW.trod enc P W 0 (fun _ => true) true n zst [v0] = some y0) (h1 : DataW.trod enc P W 0 (fun _ => true) true n ist [v1] = some y1) (h2 : DataW.trod enc P W 0 (fun _ => true) true n it [v2] = some y2) (h3 : DataW.trod enc P W 0 (fun _ => true) true n lst [v3] = some y3) (h4 : DataW.trod enc P W 0 (fun _ => true) true n bst [v4] = some y4)
    (s0 : Sized P zst y0.1) (s1 : Sized P ist y1.1) (s3 : Sized P lst y3.1) (s4 : Sized P bst y4.1) :
    ∃ x : Hx, v0 = .slice x.zo x.zn x.zc ∧ v1 = .slice x.mo x.mn x.mc ∧ v2 = .int .i64 x.cpus ∧ v3 = .slice x.lo x.ln x.lc ∧ v4 = .slice x.vo x.vn x.vc ∧ IsHeap W x := by
  obtain ⟨g0, g1, g2, g3, a1, a2, a3, a4, a5, a6⟩ := T.zone
  obtain ⟨b0, b1, b2, c1, c2, c3, c4, c5⟩ := T.block
  obtain ⟨l0, l1, l2, l3, d1, d2, d3, d4, d5, d6⟩ := T.list
  obtain ⟨zo, zn, zc, zs, rfl, hZ, hZf⟩ := open_zones T.zones a1 a2 T.zcell T.zbytes a5 a6 T.blocks c1 T.bcell T.bbytes c2 (by rw [c3]; exact T.int) (by rw [c4]; exact T.int) (by rw [c5]; exact T.int) T.ints T.int T.icell T.ibytes (by rw [a3]; exact T.int) (by rw [a4]; exact T.int) h0 s0
  obtain ⟨mo, mn, mc, ms, rfl, hM⟩ := open_ints_in T.ints T.int T.icell T.ibytes h1 s1
  obtain ⟨cp, e2, _, hc⟩ := DataW.trod_int T.int h2
  simp only [List.cons.injEq, and_true] at e2
  subst e2
  obtain ⟨lo, ln, lc, ls, rfl, hL, hLf⟩ := open_lists T.lists d1 d2 T.lcell T.lbytes d6 T.ints T.int T.icell T.ibytes (by rw [d3]; exact T.int) (by rw [d4]; exact T.int) (by rw [d5]; exact T.int) h3 s3
  obtain ⟨vo, vn, vc, vs, rfl, hV⟩ := open_blks T.blocks c1 T.bcell T.bbytes c2 (by rw [c3]; exact T.int) (by rw [c4]; exact T.int) (by rw [c5]; exact T.int) h4 s4
  exact ⟨⟨zs, zo, zn, zc, ms, mo, mn, mc, cp, ls, lo, ln, lc, vs, vo, vn, vc⟩, rfl, rfl, rfl, rfl, rfl, ⟨⟨hZ, ⟨hM.len, by have := hM.reach; have := hM.le; show mn * 8 ≤ _; omega, hM.at_⟩, hL, ⟨hV.len, by have := hV.reach; have := hV.le; show vn * 24 ≤ _; omega, hV.at_⟩⟩, hZf, hLf, hV.wf, hc⟩⟩

theorem open_heap_arg {H : Type} {enc : TypeId × Value → H} {P : Program} {W : World} {base : Nat} {ht zst zt bst bt ist it lst lt : TypeId} (T : HeapTypes P ht zst zt bst bt ist it lst lt) {v : Value} {d : DataW H} {p : List MemPlace}
    (hv : Value.okWide P W .any base ht v) (h : DataW.Trod enc P W 0 (fun _ => true) true ht v d p) (hs : Sized P ht d) :
    ∃ x : Hx, v = .agg #[.slice x.zo x.zn x.zc, .slice x.mo x.mn x.mc, .int .i64 x.cpus, .slice x.lo x.ln x.lc, .slice x.vo x.vn x.vc] ∧ IsHeap W x := by
  obtain ⟨f0, f1, f2, f3, f4, a1, a2, a3, a4, a5, a6, a7⟩ := T.heap
  obtain ⟨v0, v1, v2, v3, v4, y0, y1, y2, y3, y4, n, rfl, rfl, h0, h1, h2, h3, h4⟩ := open_agg5 a1 a2 T.hc hv h
  have s0 : Sized P zst y0.1 := sized_field hs a1 (i := 0) (by simp [a3]) rfl
  have s1 : Sized P ist y1.1 := sized_field hs a1 (i := 1) (by simp [a4]) rfl
  have s3 : Sized P lst y3.1 := sized_field hs a1 (i := 3) (by simp [a6]) rfl
  have s4 : Sized P bst y4.1 := sized_field hs a1 (i := 4) (by simp [a7]) rfl
  rw [a3] at h0
  rw [a4] at h1
  rw [a5] at h2
  rw [a6] at h3
  rw [a7] at h4
  obtain ⟨x, rfl, rfl, rfl, rfl, rfl, hx⟩ := open_heap_in T h0 h1 h2 h3 h4 s0 s1 s3 s4
  exact ⟨x, rfl, hx⟩

end Go.Proofs.Ytmpalonhckafjaa.Kit
