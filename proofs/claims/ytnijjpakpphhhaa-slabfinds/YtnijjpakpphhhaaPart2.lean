/-
  OWN TEXTS.
-/
import Derived.Test.YtnijjpakpphhhaaPart1
import Derived.Test.YtnijjpakpphhhaaChecked
import Derived.Deep.Quiet
set_option maxRecDepth 10000
set_option maxHeartbeats 4000000
namespace Go.Proofs.Ytnijjpakpphhhaa.Kit
open Go Go.RowKit Go.ChangeShapes Go.WideShapes Go.ChangeAt Go.Joins Go.Deep
theorem sized_elem {H : Type} {P : Program} {t e : TypeId} {elems spare : List (DataW H)} {d : DataW H} (h : Sized P t (.slice elems spare)) (ht : P.underlying t = some (.slice e)) (hd : d ∈ elems) : Sized P e d := by
 have hall : ∀ (l : List (DataW H)), d ∈ l → ∀ n ∈ d.weights P e, n ∈ DataW.weightsAll P e l := by
  intro l
  induction l with
  | nil => intro h; cases h
  | cons x l ih =>
   intro hx n hn
   simp only [DataW.weightsAll, List.mem_append]
   rcases List.mem_cons.1 hx with rfl | hx
   ·exact .inl hn
   ·exact .inr (ih hx n hn)
 intro n hn
 apply h
 simp only [DataW.weights, ht, List.mem_cons, List.mem_append]
 exact .inr (.inl (hall _ hd n hn))
structure Lc.Fits (x : Lc) : Prop where
 c : (Lit.int .i64 x.l.c).wf = true
 z : (Lit.int .i64 x.l.z).wf = true
 t : (Lit.int .i64 x.l.t).wf = true
structure IsHeap (w : World) (x : Hx) : Prop where
 at_ : x.At w
 zf : ∀ z ∈ x.zs, ZFits z.z
 lf : ∀ l ∈ x.ls, l.Fits
 vf : ∀ i, i < x.vn → (x.live.getD i .zero).Fits
 cf : (Lit.int .i64 x.cpus).wf = true
theorem add_none {b off j : Nat} : (⟨b, off, none⟩ : Addr).add j = ⟨b, off + j, none⟩ := by unfold Addr.add; split <;> simp_all
section
variable {H : Type} {enc : TypeId × Value → H} {P : Program} {W : World} {fuel : Nat} {v : Value} {y : DataW H × List MemPlace}
theorem open_zones {t e zt bt u i : TypeId} {g0 g1 g2 g3 f0 f1 f2 : Field}
    (ht : P.underlying t = some (.slice zt)) (hb : P.underlying zt = some (.struct #[g0, g1, g2, g3])) (hone : oneCellFields P #[g0, g1, g2, g3] = true) (cb : P.cellsOf zt = 4) (bb : P.bytesOf zt = 64) (t2 : g2.type = bt) (t3 : g3.type = u)
    (hbt : P.underlying bt = some (.slice e)) (he : P.underlying e = some (.struct #[f0, f1, f2])) (ce : P.cellsOf e = 3) (be : P.bytesOf e = 24) (hone2 : oneCellFields P #[f0, f1, f2] = true)
    (u0 : P.underlying f0.type = some (.int .i64)) (u1 : P.underlying f1.type = some (.int .i64)) (u2 : P.underlying f2.type = some (.int .i64))
    (hu : P.underlying u = some (.slice i)) (hi : P.underlying i = some (.int .i64)) (ci : P.cellsOf i = 1) (bi : P.bytesOf i = 8)
    (w0 : P.underlying g0.type = some (.int .i64)) (w1 : P.underlying g1.type = some (.int .i64))
    (hf : DataW.trod enc P W 0 (fun _ => true) true fuel t [v] = some y) (hs : Sized P t y.1) :
    ∃ ao n cap l, v = .slice ao n cap ∧ Zons W ao n l ∧ ∀ x ∈ l, ZFits x.z := by
 rcases open_slice ht hf with ⟨hcs, _⟩ | ⟨a, n, m0, m, fu, D, Pl, hcs, _, hl, hm, hmm, hx, hc⟩
 ·simp only [List.cons.injEq, and_true] at hcs
  subst hcs
  exact ⟨none, 0, 0, [], rfl, Zons.nil _, fun _ h => by cases h⟩
 ·simp only [List.cons.injEq, and_true] at hcs
  subst hcs
  simp only [if_true] at hmm
  subst hmm
  have hr := hx ▸ hs
  have hr2 := sized_sl hr ht
  rw [bb] at hr2
  simp only [List.length_map, List.length_range, reachBytes] at hr2
  rw [cb] at hc
  obtain ⟨o0, k0⟩ := hone_of hone 0 g0 rfl
  obtain ⟨o1, k1⟩ := hone_of hone 1 g1 rfl
  obtain ⟨o2, k2⟩ := hone_of hone 2 g2 rfl
  obtain ⟨o3, k3⟩ := hone_of hone 3 g3 rfl
  have each : ∀ i, i < n → ∃ r : Zc, r.At W ∧ ZFits r.z ∧ W.cell? (a.add (i * 4)) = some r.q.a ∧ W.cell? (a.add (i * 4 + 1)) = some r.q.b ∧ W.cell? (a.add (i * 4 + 2)) = some r.q.c ∧ W.cell? (a.add (i * 4 + 3)) = some r.q.d := by
   intro i hi
   obtain ⟨cs', h1, h2⟩ := hc i (by omega)
   obtain ⟨_, hlen, hcell⟩ := World.cells?_some h1
   obtain ⟨y0, y1, y2, y3, q, hD, _, q0, q1, q2, q3⟩ := trod_struct4 hb h2
   have hse : Sized P zt (D i) := sized_elem hr ht (by rw [List.mem_map]; exact ⟨i, List.mem_range.2 hi, rfl⟩)
   simp only [Prod.mk.injEq] at hD
   rw [hD.1] at hse
   have s2 : Sized P bt y2.1 := sized_field hse hb (i := 2) (by simp [t2]) rfl
   have s3 : Sized P u y3.1 := sized_field hse hb (i := 3) (by simp [t3]) rfl
   match cs', hlen with
   | [v0, v1, v2, v3], _ =>
    simp [o0, k0] at q0
    simp [o1, k1] at q1
    simp [o2, k2] at q2
    simp [o3, k3] at q3
    rw [t2] at q2
    rw [t3] at q3
    obtain ⟨x0, e0, _, f0w⟩ := DataW.trod_int w0 q0
    obtain ⟨x1, e1, _, f1w⟩ := DataW.trod_int w1 q1
    simp only [List.cons.injEq, and_true] at e0 e1
    subst e0 e1
    obtain ⟨fo, fn, fc, fr, rfl, hF⟩ := open_blks hbt he ce be hone2 u0 u1 u2 q2 s2
    obtain ⟨to_, tn, tc, ty, rfl, hT⟩ := open_ints_in hu ‹_› ci bi q3 s3
    have c0 := hcell 0 (by omega)
    have c1 := hcell 1 (by omega)
    have c2 := hcell 2 (by omega)
    have c3 := hcell 3 (by omega)
    rw [add_add] at c0 c1 c2 c3
    have hz : IsZone W fo fn fc to_ tn tc ⟨x0, x1, fr, ty⟩ := ⟨hF, hT, f0w, f1w⟩
    exact ⟨⟨⟨x0, x1, fr, ty⟩, fo, fn, fc, to_, tn, tc⟩, hz.zn, hz.fits, by simpa [Zc.q] using c0, by simpa [Zc.q] using c1, by simpa [Zc.q] using c2, by simpa [Zc.q] using c3⟩
  have inh : Inhabited Zc := ⟨Zc.zero⟩
  obtain ⟨g, hg⟩ := choose_lt each
  have hget : ∀ i, i < n → (((List.range n).map g).map Zc.q).getD i .zero = (g i).q := by
   intro i hi
   simp [List.getD_eq_getElem?_getD, hi]
  have hmem : ∀ x ∈ (List.range n).map g, ∃ i, i < n ∧ x = g i := by
   intro x hx
   rw [List.mem_map] at hx
   obtain ⟨i, hi, rfl⟩ := hx
   exact ⟨i, List.mem_range.1 hi, rfl⟩
  refine ⟨some a, n, m, (List.range n).map g, rfl, ⟨by simp, by omega, ?_, fun x hx => ?_⟩, fun x hx => ?_⟩
  ·intro i hi
   have hi' : i < n := by simpa using hi
   obtain ⟨_, _, d0, d1, d2, d3⟩ := hg i hi'
   obtain ⟨b, off, spot⟩ := a
   have hspot : spot = none := by
    have := World.cell?_spot (hg 0 (by omega)).2.2.1
    simpa [Addr.add] using this
   subst hspot
   rw [add_none] at d0 d1 d2 d3
   rw [hget i hi']
   exact ⟨b, off, rfl, d0, by rw [Nat.add_assoc]; exact d1, by rw [Nat.add_assoc]; exact d2, by rw [Nat.add_assoc]; exact d3⟩
  ·obtain ⟨i, hi, rfl⟩ := hmem x hx
   exact (hg i hi).1
  ·obtain ⟨i, hi, rfl⟩ := hmem x hx
   exact (hg i hi).2.1
theorem open_lists {t lt u i : TypeId} {g0 g1 g2 g3 : Field}
    (ht : P.underlying t = some (.slice lt)) (hb : P.underlying lt = some (.struct #[g0, g1, g2, g3])) (hone : oneCellFields P #[g0, g1, g2, g3] = true) (cb : P.cellsOf lt = 4) (bb : P.bytesOf lt = 48) (t3 : g3.type = u)
    (hu : P.underlying u = some (.slice i)) (hi : P.underlying i = some (.int .i64)) (ci : P.cellsOf i = 1) (bi : P.bytesOf i = 8)
    (w0 : P.underlying g0.type = some (.int .i64)) (w1 : P.underlying g1.type = some (.int .i64)) (w2 : P.underlying g2.type = some (.int .i64))
    (hf : DataW.trod enc P W 0 (fun _ => true) true fuel t [v] = some y) (hs : Sized P t y.1) :
    ∃ ao n cap l, v = .slice ao n cap ∧ Lsts W ao n l ∧ ∀ x ∈ l, x.Fits := by
 rcases open_slice ht hf with ⟨hcs, _⟩ | ⟨a, n, m0, m, fu, D, Pl, hcs, _, hl, hm, hmm, hx, hc⟩
 ·simp only [List.cons.injEq, and_true] at hcs
  subst hcs
  exact ⟨none, 0, 0, [], rfl, Lsts.nil _, fun _ h => by cases h⟩
 ·simp only [List.cons.injEq, and_true] at hcs
  subst hcs
  simp only [if_true] at hmm
  subst hmm
  have hr := hx ▸ hs
  have hr2 := sized_sl hr ht
  rw [bb] at hr2
  simp only [List.length_map, List.length_range, reachBytes] at hr2
  rw [cb] at hc
  obtain ⟨o0, k0⟩ := hone_of hone 0 g0 rfl
  obtain ⟨o1, k1⟩ := hone_of hone 1 g1 rfl
  obtain ⟨o2, k2⟩ := hone_of hone 2 g2 rfl
  obtain ⟨o3, k3⟩ := hone_of hone 3 g3 rfl
  have each : ∀ i, i < n → ∃ r : Lc, r.At W ∧ r.Fits ∧ W.cell? (a.add (i * 4)) = some r.q.a ∧ W.cell? (a.add (i * 4 + 1)) = some r.q.b ∧ W.cell? (a.add (i * 4 + 2)) = some r.q.c ∧ W.cell? (a.add (i * 4 + 3)) = some r.q.d := by
   intro i hi
   obtain ⟨cs', h1, h2⟩ := hc i (by omega)
   obtain ⟨_, hlen, hcell⟩ := World.cells?_some h1
   obtain ⟨y0, y1, y2, y3, q, hD, _, q0, q1, q2, q3⟩ := trod_struct4 hb h2
   have hse : Sized P lt (D i) := sized_elem hr ht (by rw [List.mem_map]; exact ⟨i, List.mem_range.2 hi, rfl⟩)
   simp only [Prod.mk.injEq] at hD
   rw [hD.1] at hse
   have s3 : Sized P u y3.1 := sized_field hse hb (i := 3) (by simp [t3]) rfl
   match cs', hlen with
   | [v0, v1, v2, v3], _ =>
    simp [o0, k0] at q0
    simp [o1, k1] at q1
    simp [o2, k2] at q2
    simp [o3, k3] at q3
    rw [t3] at q3
    obtain ⟨x0, e0, _, f0w⟩ := DataW.trod_int w0 q0
    obtain ⟨x1, e1, _, f1w⟩ := DataW.trod_int w1 q1
    obtain ⟨x2, e2, _, f2w⟩ := DataW.trod_int w2 q2
    simp only [List.cons.injEq, and_true] at e0 e1 e2
    subst e0 e1 e2
    obtain ⟨to_, tn, tc, ty, rfl, hT⟩ := open_ints_in hu ‹_› ci bi q3 s3
    have c0 := hcell 0 (by omega)
    have c1 := hcell 1 (by omega)
    have c2 := hcell 2 (by omega)
    have c3 := hcell 3 (by omega)
    rw [add_add] at c0 c1 c2 c3
    exact ⟨⟨⟨x0, x1, x2, ty⟩, to_, tn, tc⟩, ⟨hT.len, by have := hT.reach; have := hT.le; show tn * 8 ≤ _; omega, hT.at_⟩, ⟨f0w, f1w, f2w⟩, by simpa [Lc.q] using c0, by simpa [Lc.q] using c1, by simpa [Lc.q] using c2, by simpa [Lc.q] using c3⟩
  have inh : Inhabited Lc := ⟨Lc.zero⟩
  obtain ⟨g, hg⟩ := choose_lt each
  have hget : ∀ i, i < n → (((List.range n).map g).map Lc.q).getD i .zero = (g i).q := by
   intro i hi
   simp [List.getD_eq_getElem?_getD, hi]
  have hmem : ∀ x ∈ (List.range n).map g, ∃ i, i < n ∧ x = g i := by
   intro x hx
   rw [List.mem_map] at hx
   obtain ⟨i, hi, rfl⟩ := hx
   exact ⟨i, List.mem_range.1 hi, rfl⟩
  refine ⟨some a, n, m, (List.range n).map g, rfl, ⟨by simp, by omega, ?_, fun x hx => ?_⟩, fun x hx => ?_⟩
  ·intro i hi
   have hi' : i < n := by simpa using hi
   obtain ⟨_, _, d0, d1, d2, d3⟩ := hg i hi'
   obtain ⟨b, off, spot⟩ := a
   have hspot : spot = none := by
    have := World.cell?_spot (hg 0 (by omega)).2.2.1
    simpa [Addr.add] using this
   subst hspot
   rw [add_none] at d0 d1 d2 d3
   rw [hget i hi']
   exact ⟨b, off, rfl, d0, by rw [Nat.add_assoc]; exact d1, by rw [Nat.add_assoc]; exact d2, by rw [Nat.add_assoc]; exact d3⟩
  ·obtain ⟨i, hi, rfl⟩ := hmem x hx
   exact (hg i hi).1
  ·obtain ⟨i, hi, rfl⟩ := hmem x hx
   exact (hg i hi).2.1
end
theorem array5 {α : Type} {cs : Array α} (h : cs.size = 5) : ∃ c0 c1 c2 c3 c4, cs = #[c0, c1, c2, c3, c4] := by
 obtain ⟨l⟩ := cs
 match l, h with
 | [c0, c1, c2, c3, c4], _ => exact ⟨c0, c1, c2, c3, c4, rfl⟩
theorem open_agg5 {H : Type} {enc : TypeId × Value → H} {P : Program} {W : World} {base : Nat} {t : TypeId} {f0 f1 f2 f3 f4 : Field} {v : Value} {d : DataW H} {p : List MemPlace}
    (hs : P.underlying t = some (.struct #[f0, f1, f2, f3, f4])) (hone : oneCellFields P #[f0, f1, f2, f3, f4] = true) (hC : P.cellsOf t = 5)
    (hv : Value.okWide P W .any base t v) (h : DataW.Trod enc P W 0 (fun _ => true) true t v d p) :
    ∃ (v0 v1 v2 v3 v4 : Value) (y0 y1 y2 y3 y4 : DataW H × List MemPlace) (n : Nat), v = .agg #[v0, v1, v2, v3, v4] ∧ d = .agg [y0.1, y1.1, y2.1, y3.1, y4.1] ∧
     DataW.trod enc P W 0 (fun _ => true) true n f0.type [v0] = some y0 ∧ DataW.trod enc P W 0 (fun _ => true) true n f1.type [v1] = some y1 ∧ DataW.trod enc P W 0 (fun _ => true) true n f2.type [v2] = some y2 ∧ DataW.trod enc P W 0 (fun _ => true) true n f3.type [v3] = some y3 ∧ DataW.trod enc P W 0 (fun _ => true) true n f4.type [v4] = some y4 := by
 obtain ⟨cs, rfl, hsz⟩ := okWide_struct hs hv
 obtain ⟨c0, c1, c2, c3, c4, rfl⟩ := array5 (hsz.trans hC)
 obtain ⟨fuel, hf⟩ := h
 obtain ⟨xs, n, _, hD, hl, hlen, hx⟩ := DataW.trod_struct hs hf
 simp only [Prod.mk.injEq] at hD
 obtain ⟨o0, k0⟩ := hone_of hone 0 f0 rfl
 obtain ⟨o1, k1⟩ := hone_of hone 1 f1 rfl
 obtain ⟨o2, k2⟩ := hone_of hone 2 f2 rfl
 obtain ⟨o3, k3⟩ := hone_of hone 3 f3 rfl
 obtain ⟨o4, k4⟩ := hone_of hone 4 f4 rfl
 match xs, hlen with
 | [y0, y1, y2, y3, y4], _ =>
  have h0 := hx 0 f0 rfl
  have h1 := hx 1 f1 rfl
  have h2 := hx 2 f2 rfl
  have h3 := hx 3 f3 rfl
  have h4 := hx 4 f4 rfl
  exact ⟨c0, c1, c2, c3, c4, y0, y1, y2, y3, y4, n, rfl, by simpa using hD.1, by simpa [Value.cells, o0, k0] using h0, by simpa [Value.cells, o1, k1] using h1, by simpa [Value.cells, o2, k2] using h2, by simpa [Value.cells, o3, k3] using h3, by simpa [Value.cells, o4, k4] using h4⟩
structure HeapTypes (P : Program) (ht zst zt bst bt ist it lst lt : TypeId) : Prop where
 heap : ∃ f0 f1 f2 f3 f4 : Field, P.underlying ht = some (.struct #[f0, f1, f2, f3, f4]) ∧ oneCellFields P #[f0, f1, f2, f3, f4] = true ∧ f0.type = zst ∧ f1.type = ist ∧ f2.type = it ∧ f3.type = lst ∧ f4.type = bst
 hc : P.cellsOf ht = 5
 zones : P.underlying zst = some (.slice zt)
 zone : ∃ f0 f1 f2 f3 : Field, P.underlying zt = some (.struct #[f0, f1, f2, f3]) ∧ oneCellFields P #[f0, f1, f2, f3] = true ∧ f0.type = it ∧ f1.type = it ∧ f2.type = bst ∧ f3.type = ist
 zcell : P.cellsOf zt = 4
 zbytes : P.bytesOf zt = 64
 blocks : P.underlying bst = some (.slice bt)
 block : ∃ f0 f1 f2 : Field, P.underlying bt = some (.struct #[f0, f1, f2]) ∧ oneCellFields P #[f0, f1, f2] = true ∧ f0.type = it ∧ f1.type = it ∧ f2.type = it
 bcell : P.cellsOf bt = 3
 bbytes : P.bytesOf bt = 24
 ints : P.underlying ist = some (.slice it)
 int : P.underlying it = some (.int .i64)
 icell : P.cellsOf it = 1
 ibytes : P.bytesOf it = 8
 lists : P.underlying lst = some (.slice lt)
 list : ∃ f0 f1 f2 f3 : Field, P.underlying lt = some (.struct #[f0, f1, f2, f3]) ∧ oneCellFields P #[f0, f1, f2, f3] = true ∧ f0.type = it ∧ f1.type = it ∧ f2.type = it ∧ f3.type = ist
 lcell : P.cellsOf lt = 4
 lbytes : P.bytesOf lt = 48
theorem open_heap_in {H : Type} {enc : TypeId × Value → H} {P : Program} {W : World} {ht zst zt bst bt ist it lst lt : TypeId} (T : HeapTypes P ht zst zt bst bt ist it lst lt) {n : Nat} {v0 v1 v2 v3 v4 : Value} {y0 y1 y2 y3 y4 : DataW H × List MemPlace}
    (h0 : DataW.trod enc P W 0 (fun _ => true) true n zst [v0] = some y0) (h1 : DataW.trod enc P W 0 (fun _ => true) true n ist [v1] = some y1) (h2 : DataW.trod enc P W 0 (fun _ => true) true n it [v2] = some y2) (h3 : DataW.trod enc P W 0 (fun _ => true) true n lst [v3] = some y3) (h4 : DataW.trod enc P W 0 (fun _ => true) true n bst [v4] = some y4)
    (s0 : Sized P zst y0.1) (s1 : Sized P ist y1.1) (s3 : Sized P lst y3.1) (s4 : Sized P bst y4.1) :
    ∃ x : Hx, v0 = .slice x.zo x.zn x.zc ∧ v1 = .slice x.mo x.mn x.mc ∧ v2 = .int .i64 x.cpus ∧ v3 = .slice x.lo x.ln x.lc ∧ v4 = .slice x.vo x.vn x.vc ∧ IsHeap W x := by
 obtain ⟨g0, g1, g2, g3, a1, a2, a3, a4, a5, a6⟩ := T.zone
 obtain ⟨b0, b1, b2, c1, c2, c3, c4, c5⟩ := T.block
 obtain ⟨l0, l1, l2, l3, d1, d2, d3, d4, d5, d6⟩ := T.list
 obtain ⟨zo, zn, zc, zs, rfl, hZ, hZf⟩ := open_zones T.zones a1 a2 T.zcell T.zbytes a5 a6 T.blocks c1 T.bcell T.bbytes c2 (by rw [c3]; exact T.int) (by rw [c4]; exact T.int) (by rw [c5]; exact T.int) T.ints T.int T.icell T.ibytes (by rw [a3]; exact T.int) (by rw [a4]; exact T.int) h0 s0
 obtain ⟨mo, mn, mc, ms, rfl, hM⟩ := open_ints_in T.ints T.int T.icell T.ibytes h1 s1
 obtain ⟨cp, e2, _, hc⟩ := DataW.trod_int T.int h2
 simp only [List.cons.injEq, and_true] at e2
 subst e2
 obtain ⟨lo, ln, lc, ls, rfl, hL, hLf⟩ := open_lists T.lists d1 d2 T.lcell T.lbytes d6 T.ints T.int T.icell T.ibytes (by rw [d3]; exact T.int) (by rw [d4]; exact T.int) (by rw [d5]; exact T.int) h3 s3
 obtain ⟨vo, vn, vc, vs, rfl, hV⟩ := open_blks T.blocks c1 T.bcell T.bbytes c2 (by rw [c3]; exact T.int) (by rw [c4]; exact T.int) (by rw [c5]; exact T.int) h4 s4
 exact ⟨⟨zs, zo, zn, zc, ms, mo, mn, mc, cp, ls, lo, ln, lc, vs, vo, vn, vc⟩, rfl, rfl, rfl, rfl, rfl, ⟨⟨hZ, ⟨hM.len, by have := hM.reach; have := hM.le; show mn * 8 ≤ _; omega, hM.at_⟩, hL, ⟨hV.len, by have := hV.reach; have := hV.le; show vn * 24 ≤ _; omega, hV.at_⟩⟩, hZf, hLf, hV.wf, hc⟩⟩
theorem open_heap_arg {H : Type} {enc : TypeId × Value → H} {P : Program} {W : World} {base : Nat} {ht zst zt bst bt ist it lst lt : TypeId} (T : HeapTypes P ht zst zt bst bt ist it lst lt) {v : Value} {d : DataW H} {p : List MemPlace}
    (hv : Value.okWide P W .any base ht v) (h : DataW.Trod enc P W 0 (fun _ => true) true ht v d p) (hs : Sized P ht d) :
    ∃ x : Hx, v = .agg #[.slice x.zo x.zn x.zc, .slice x.mo x.mn x.mc, .int .i64 x.cpus, .slice x.lo x.ln x.lc, .slice x.vo x.vn x.vc] ∧ IsHeap W x := by
 obtain ⟨f0, f1, f2, f3, f4, a1, a2, a3, a4, a5, a6, a7⟩ := T.heap
 obtain ⟨v0, v1, v2, v3, v4, y0, y1, y2, y3, y4, n, rfl, rfl, h0, h1, h2, h3, h4⟩ := open_agg5 a1 a2 T.hc hv h
 have s0 : Sized P zst y0.1 := sized_field hs a1 (i := 0) (by simp [a3]) rfl
 have s1 : Sized P ist y1.1 := sized_field hs a1 (i := 1) (by simp [a4]) rfl
 have s3 : Sized P lst y3.1 := sized_field hs a1 (i := 3) (by simp [a6]) rfl
 have s4 : Sized P bst y4.1 := sized_field hs a1 (i := 4) (by simp [a7]) rfl
 rw [a3] at h0
 rw [a4] at h1
 rw [a5] at h2
 rw [a6] at h3
 rw [a7] at h4
 obtain ⟨x, rfl, rfl, rfl, rfl, rfl, hx⟩ := open_heap_in T h0 h1 h2 h3 h4 s0 s1 s3 s4
 exact ⟨x, rfl, hx⟩
open Go Go.RowKit
structure Q6 where
 a : Value
 b : Value
 c : Value
 d : Value
 e : Value
 f : Value
def Q6.zero : Q6 := ⟨.int .i64 0, .int .i64 0, .int .i64 0, .int .i64 0, .int .i64 0, .int .i64 0⟩
def Q6.cells (x : Q6) : List Value := [x.a, x.b, x.c, x.d, x.e, x.f]
def c6 : List Q6 → List Value
 | [] => []
 | x :: l => x.a :: x.b :: x.c :: x.d :: x.e :: x.f :: c6 l
theorem length_c6 (l : List Q6) : (c6 l).length = l.length * 6 := by
 induction l with
 | nil => rfl
 | cons r l ih => simp only [c6, List.length_cons, ih]; omega
theorem c6_append (l m : List Q6) : c6 (l ++ m) = c6 l ++ c6 m := by
 induction l with
 | nil => rfl
 | cons r l ih => simp [c6, ih]
theorem c6_get (l : List Q6) (i : Nat) (h : i < l.length) : (c6 l)[i * 6]? = some (l.getD i .zero).a ∧ (c6 l)[i * 6 + 1]? = some (l.getD i .zero).b ∧ (c6 l)[i * 6 + 2]? = some (l.getD i .zero).c ∧ (c6 l)[i * 6 + 3]? = some (l.getD i .zero).d ∧ (c6 l)[i * 6 + 4]? = some (l.getD i .zero).e ∧ (c6 l)[i * 6 + 5]? = some (l.getD i .zero).f := by
 induction l generalizing i with
 | nil => simp at h
 | cons r l ih =>
  cases i with
  | zero => simp [c6]
  | succ i =>
   have := ih i (by simpa using h)
   rw [Nat.succ_mul]
   simpa [c6] using this
def Q6.One (x : Q6) : Prop := x.a.oneCell' = true ∧ x.b.oneCell' = true ∧ x.c.oneCell' = true ∧ x.d.oneCell' = true ∧ x.e.oneCell' = true ∧ x.f.oneCell' = true
theorem c6_oneCell (l : List Q6) (h : ∀ x ∈ l, x.One) : ∀ u ∈ c6 l, u.oneCell' = true := by
 induction l with
 | nil => intro u hu; simp [c6] at hu
 | cons r l ih =>
  intro u hu
  obtain ⟨h0, h1, h2, h3, h4, h5⟩ := h r (by simp)
  simp only [c6, List.mem_cons] at hu
  rcases hu with rfl | rfl | rfl | rfl | rfl | rfl | hu
  ·exact h0
  ·exact h1
  ·exact h2
  ·exact h3
  ·exact h4
  ·exact h5
  ·exact ih (fun x hx => h x (by simp [hx])) u hu
theorem c6_set (l : List Q6) (i : Nat) (h : i < l.length) (x : Q6) : ((((((c6 l).set (i * 6) x.a).set (i * 6 + 1) x.b).set (i * 6 + 2) x.c).set (i * 6 + 3) x.d).set (i * 6 + 4) x.e).set (i * 6 + 5) x.f = c6 (l.set i x) := by
 induction l generalizing i with
 | nil => simp at h
 | cons r l ih =>
  cases i with
  | zero => simp [c6]
  | succ i =>
   have := ih i (by simpa using h)
   rw [Nat.succ_mul]
   simpa [c6] using this
def C6At (w : World) (ao : Option Addr) (l : List Q6) : Prop :=
 ∀ i, i < l.length → ∃ b off, ao = some ⟨b, off, none⟩ ∧ w.cell? ⟨b, off + i * 6, none⟩ = some (l.getD i .zero).a ∧ w.cell? ⟨b, off + i * 6 + 1, none⟩ = some (l.getD i .zero).b ∧
  w.cell? ⟨b, off + i * 6 + 2, none⟩ = some (l.getD i .zero).c ∧ w.cell? ⟨b, off + i * 6 + 3, none⟩ = some (l.getD i .zero).d ∧ w.cell? ⟨b, off + i * 6 + 4, none⟩ = some (l.getD i .zero).e ∧ w.cell? ⟨b, off + i * 6 + 5, none⟩ = some (l.getD i .zero).f
theorem C6At.below {w w' : World} {ao : Option Addr} {l : List Q6} (h : C6At w ao l) (hb : Below w.heap.size w w') : C6At w' ao l := by
 intro i hi
 obtain ⟨b, off, ha, h1, h2, h3, h4, h5, h6⟩ := h i hi
 exact ⟨b, off, ha, keep h1 hb, keep h2 hb, keep h3 hb, keep h4 hb, keep h5 hb, keep h6 hb⟩
theorem C6At.nil (w : World) (ao : Option Addr) : C6At w ao [] := fun i hi => absurd hi (by simp)
theorem c6_of_owns {w : World} {base : Nat} {e : TypeId} {ao : Option Addr} {n cap : Nat} {l : List Q6} (h : w.ownsRow base e 6 (.slice ao n cap) n (c6 l)) : C6At w ao l := by
 intro i hi
 have hl := h.1
 rw [length_c6] at hl
 obtain ⟨g0, g1, g2, g3, g4, g5⟩ := c6_get l i hi
 rcases h.2 with ⟨h', h0⟩ | ⟨g, cap', cur, h', _, hg, _, _, _, htake⟩
 ·omega
 ·simp only [Value.slice.injEq] at h'
  obtain ⟨rfl, _, rfl⟩ := h'
  refine ⟨g, 0, rfl, ?_, ?_, ?_, ?_, ?_, ?_⟩
  ·rw [Nat.zero_add, h.cellAt (i * 6) (by omega), g0]
  ·rw [Nat.zero_add, h.cellAt (i * 6 + 1) (by omega), g1]
  ·rw [Nat.zero_add, h.cellAt (i * 6 + 2) (by omega), g2]
  ·rw [Nat.zero_add, h.cellAt (i * 6 + 3) (by omega), g3]
  ·rw [Nat.zero_add, h.cellAt (i * 6 + 4) (by omega), g4]
  ·rw [Nat.zero_add, h.cellAt (i * 6 + 5) (by omega), g5]
theorem c6owns_len {w : World} {base : Nat} {e : TypeId} {v : Value} {n : Nat} {l : List Q6} (h : w.ownsRow base e 6 v n (c6 l)) : l.length = n := by have := h.1; rw [length_c6] at this; omega
def StrsAt (w : World) (ao : Option Addr) (l : List ByteArray) : Prop :=
 ∀ i, i < l.length → ∃ b off, ao = some ⟨b, off, none⟩ ∧ w.cell? ⟨b, off + i, none⟩ = some (.string (l.getD i default))
theorem StrsAt.below {w w' : World} {ao : Option Addr} {l : List ByteArray} (h : StrsAt w ao l) (hb : Below w.heap.size w w') : StrsAt w' ao l := by
 intro i hi
 obtain ⟨b, off, ha, h1⟩ := h i hi
 exact ⟨b, off, ha, keep h1 hb⟩
structure Strs (w : World) (ao : Option Addr) (n : Nat) (l : List ByteArray) : Prop where
 len : l.length = n
 reach : n * 16 ≤ 140737488351232
 at_ : StrsAt w ao l
theorem Strs.below {w w' : World} {ao : Option Addr} {n : Nat} {l : List ByteArray} (h : Strs w ao n l) (hb : Below w.heap.size w w') : Strs w' ao n l := ⟨h.len, h.reach, h.at_.below hb⟩
theorem Strs.nil (w : World) : Strs w none 0 [] := ⟨rfl, by omega, fun i hi => absurd hi (by simp)⟩
theorem Strs.at {w : World} {ao : Option Addr} {n : Nat} {l : List ByteArray} (h : Strs w ao n l) (k : Nat) (hk : k < n) : ∃ b off s, ao = some ⟨b, off, none⟩ ∧ w.cell? ⟨b, off + k * 1, none⟩ = some (.string s) ∧ Hid (l.getD k default = s) := by
 obtain ⟨b, off, ha, h1⟩ := h.at_ k (by have := h.len; omega)
 exact ⟨b, off, _, ha, by rw [Nat.mul_one]; exact h1, rfl⟩
def svals (l : List ByteArray) : List Value := l.map .string
theorem strs_of_owns {w : World} {base : Nat} {e : TypeId} {ao : Option Addr} {n cap : Nat} {l : List ByteArray} (h : w.ownsRow base e 1 (.slice ao n cap) n (svals l)) : StrsAt w ao l := by
 intro i hi
 have hl := h.1
 rw [svals, List.length_map] at hl
 rcases h.2 with ⟨h', h0⟩ | ⟨g, cap', cur, h', _, hg, _, _, _, htake⟩
 ·omega
 ·simp only [Value.slice.injEq] at h'
  obtain ⟨rfl, _, rfl⟩ := h'
  refine ⟨g, 0, rfl, ?_⟩
  rw [Nat.zero_add, h.cellAt i (by omega)]
  simp [svals, List.getD_eq_getElem?_getD, hi]
structure Ch where
 names : List ByteArray
 size : Int
 per : Int
 order : Int
 slabs : List Bk
 act : List Int
def Ch.zero : Ch := ⟨[], 0, 0, 0, [], []⟩
structure Cc where
 c : Ch
 no : Option Addr
 nn : Nat
 nc : Nat
 so : Option Addr
 sn : Nat
 sc : Nat
 ao : Option Addr
 an : Nat
 ac : Nat
def Cc.zero : Cc := ⟨.zero, none, 0, 0, none, 0, 0, none, 0, 0⟩
def Cc.q (x : Cc) : Q6 := ⟨.slice x.no x.nn x.nc, .int .i64 x.c.size, .int .i64 x.c.per, .int .i64 x.c.order, .slice x.so x.sn x.sc, .slice x.ao x.an x.ac⟩
theorem Cc.one (x : Cc) : x.q.One := ⟨rfl, rfl, rfl, rfl, rfl, rfl⟩
structure Cc.At (w : World) (x : Cc) : Prop where
 names : Strs w x.no x.nn x.c.names
 slabs : Blks w x.so x.sn x.c.slabs
 act : Nums w x.ao x.an x.c.act
theorem Cc.At.below {w w' : World} {x : Cc} (h : x.At w) (hb : Below w.heap.size w w') : x.At w' := ⟨h.names.below hb, h.slabs.below hb, h.act.below hb⟩
structure Chs (w : World) (ao : Option Addr) (n : Nat) (l : List Cc) : Prop where
 len : l.length = n
 reach : n * 96 ≤ 140737488351232
 cells : C6At w ao (l.map Cc.q)
 at_ : ∀ x ∈ l, x.At w
theorem Chs.below {w w' : World} {ao : Option Addr} {n : Nat} {l : List Cc} (h : Chs w ao n l) (hb : Below w.heap.size w w') : Chs w' ao n l := ⟨h.len, h.reach, h.cells.below hb, fun x hx => (h.at_ x hx).below hb⟩
theorem Chs.nil (w : World) : Chs w none 0 [] := ⟨rfl, by omega, C6At.nil _ _, fun _ h => by cases h⟩
theorem Chs.at {w : World} {ao : Option Addr} {n : Nat} {l : List Cc} (h : Chs w ao n l) (k : Nat) (hk : k < n) : ∃ b off names size per order slabs act no nn nc so sn sc aao an ac, ao = some ⟨b, off, none⟩ ∧ w.cell? ⟨b, off + k * 6, none⟩ = some (.slice no nn nc) ∧ w.cell? ⟨b, off + k * 6 + 1, none⟩ = some (.int .i64 size) ∧
    w.cell? ⟨b, off + k * 6 + 2, none⟩ = some (.int .i64 per) ∧ w.cell? ⟨b, off + k * 6 + 3, none⟩ = some (.int .i64 order) ∧ w.cell? ⟨b, off + k * 6 + 4, none⟩ = some (.slice so sn sc) ∧ w.cell? ⟨b, off + k * 6 + 5, none⟩ = some (.slice aao an ac) ∧ Strs w no nn names ∧ Blks w so sn slabs ∧ Nums w aao an act ∧ Hid (l.getD k .zero = ⟨⟨names, size, per, order, slabs, act⟩, no, nn, nc, so, sn, sc, aao, an, ac⟩) := by
 have hk' : k < l.length := by have := h.len; omega
 obtain ⟨b, off, ha, h0, h1, h2, h3, h4, h5⟩ := h.cells k (by simpa using hk')
 rw [getD_map l Cc.q k .zero _ hk'] at h0 h1 h2 h3 h4 h5
 have hat := h.at_ _ (getD_mem (d := Cc.zero) hk')
 exact ⟨b, off, _, _, _, _, _, _, _, _, _, _, _, _, _, _, _, ha, h0, h1, h2, h3, h4, h5, hat.names, hat.slabs, hat.act, rfl⟩
structure Sp where
 words : List Int
 h : Hp
 caches : List Ch
structure Sy where
 words : List Int
 wo : Option Addr
 wn : Nat
 wc : Nat
 h : Hx
 cs : List Cc
 co : Option Addr
 cn : Nat
 cc : Nat
def Sy.sp (x : Sy) : Sp := ⟨x.words, x.h.hp, x.cs.map (·.c)⟩
structure Sy.At (w : World) (x : Sy) : Prop where
 words : Nums w x.wo x.wn x.words
 heap : x.h.At w
 caches : Chs w x.co x.cn x.cs
theorem Sy.At.below {w w' : World} {x : Sy} (h : x.At w) (hb : Below w.heap.size w w') : x.At w' := ⟨h.words.below hb, h.heap.below hb, h.caches.below hb⟩
structure Cc.Fits (x : Cc) : Prop where
 s : (Lit.int .i64 x.c.size).wf = true
 p : (Lit.int .i64 x.c.per).wf = true
 o : (Lit.int .i64 x.c.order).wf = true
 b : ∀ i, i < x.sn → (x.c.slabs.getD i .zero).Fits
 n : ∀ s ∈ x.c.names, s.size ≤ maxLen
 a : ∀ v ∈ x.c.act, (Lit.int .i64 v).wf = true
structure IsSys (w : World) (x : Sy) : Prop where
 words : Nums w x.wo x.wn x.words
 heap : IsHeap w x.h
 caches : Chs w x.co x.cn x.cs
 cf : ∀ c ∈ x.cs, c.Fits
theorem IsSys.at_ {w : World} {x : Sy} (h : IsSys w x) : x.At w := ⟨h.words, h.heap.at_, h.caches⟩
theorem trod_struct6 {H : Type} {enc : TypeId × Value → H} {P : Program} {w : World} {base : Nat} {spare : Nat → Bool} {held : Bool} {t : TypeId} {f0 f1 f2 f3 f4 f5 : Field} {fuel : Nat} {cs : List Value} {x : DataW H × List MemPlace} (ht : P.underlying t = some (.struct #[f0, f1, f2, f3, f4, f5])) (h : DataW.trod enc P w base spare held fuel t cs = some x) :
    ∃ y0 y1 y2 y3 y4 y5 n, x.1 = .agg [y0.1, y1.1, y2.1, y3.1, y4.1, y5.1] ∧ cs.length = P.cellsOf t ∧ DataW.trod enc P w base spare held n f0.type ((cs.drop f0.offset).take (P.cellsOf f0.type)) = some y0 ∧
     DataW.trod enc P w base spare held n f1.type ((cs.drop f1.offset).take (P.cellsOf f1.type)) = some y1 ∧ DataW.trod enc P w base spare held n f2.type ((cs.drop f2.offset).take (P.cellsOf f2.type)) = some y2 ∧
     DataW.trod enc P w base spare held n f3.type ((cs.drop f3.offset).take (P.cellsOf f3.type)) = some y3 ∧ DataW.trod enc P w base spare held n f4.type ((cs.drop f4.offset).take (P.cellsOf f4.type)) = some y4 ∧ DataW.trod enc P w base spare held n f5.type ((cs.drop f5.offset).take (P.cellsOf f5.type)) = some y5 := by
 obtain ⟨xs, n, _, rfl, hl, hlen, hf⟩ := DataW.trod_struct ht h
 match xs, hlen with
 | [y0, y1, y2, y3, y4, y5], _ => exact ⟨y0, y1, y2, y3, y4, y5, n, by simp, hl, by simpa using hf 0 f0 rfl, by simpa using hf 1 f1 rfl, by simpa using hf 2 f2 rfl, by simpa using hf 3 f3 rfl, by simpa using hf 4 f4 rfl, by simpa using hf 5 f5 rfl⟩
section
variable {H : Type} {enc : TypeId × Value → H} {P : Program} {W : World} {fuel : Nat} {v : Value} {y : DataW H × List MemPlace}
theorem open_ints_wf {t e : TypeId} (ht : P.underlying t = some (.slice e)) (he : P.underlying e = some (.int .i64)) (hc : P.cellsOf e = 1) (be : P.bytesOf e = 8)
    (hf : DataW.trod enc P W 0 (fun _ => true) true fuel t [v] = some y) (hs : Sized P t y.1) :
    ∃ ao n cap xs, v = .slice ao n cap ∧ IsInts W ao n cap xs ∧ ∀ v ∈ xs, (Lit.int .i64 v).wf = true := by
 obtain ⟨ao, n, cap, xs, rfl, hI⟩ := open_ints_in ht he hc be hf hs
 refine ⟨ao, n, cap, xs, rfl, hI, ?_⟩
 rcases open_ints ht he hc hf with ⟨hcs, _⟩ | ⟨x, n, cap, zs, hcs, _, hl, hm, hz, hx, hcell, hw⟩
 ·simp only [List.cons.injEq, Value.slice.injEq, and_true] at hcs
  obtain ⟨rfl, rfl, rfl⟩ := hcs
  have := hI.len
  intro v hv
  cases xs with
  | nil => cases hv
  | cons a l => simp at this
 ·simp only [List.cons.injEq, Value.slice.injEq, and_true] at hcs
  obtain ⟨rfl, rfl, rfl⟩ := hcs
  simp only [if_true] at hz
  intro v hv
  obtain ⟨i, hi, rfl⟩ := List.getElem_of_mem hv
  have hn := hI.len
  obtain ⟨b, off, ha, hc1⟩ := hI.at_ i hi
  have hc2 := hcell i (by omega)
  simp only [Option.some.injEq] at ha
  subst ha
  have hadd : (⟨b, off, none⟩ : Addr).add i = ⟨b, off + i, none⟩ := by unfold Addr.add; split <;> simp_all
  rw [hadd, hc1] at hc2
  have e : xs[i] = zs.getD i 0 := by
   rw [List.getD_eq_getElem?_getD, List.getElem?_eq_getElem hi] at hc2
   simpa using hc2
  rw [e]
  exact hw _ (getD_mem (d := (0 : Int)) (by omega))
theorem open_strs {t e : TypeId} (ht : P.underlying t = some (.slice e)) (he : P.underlying e = some .string) (ce : P.cellsOf e = 1) (be : P.bytesOf e = 16)
    (hf : DataW.trod enc P W 0 (fun _ => true) true fuel t [v] = some y) (hs : Sized P t y.1) :
    ∃ ao n cap l, v = .slice ao n cap ∧ Strs W ao n l ∧ ∀ s ∈ l, s.size ≤ maxLen := by
 rcases open_slice ht hf with ⟨hcs, _⟩ | ⟨a, n, m0, m, fu, D, Pl, hcs, _, hl, hm, hmm, hx, hc⟩
 ·simp only [List.cons.injEq, and_true] at hcs
  subst hcs
  exact ⟨none, 0, 0, [], rfl, Strs.nil _, fun _ h => by cases h⟩
 ·simp only [List.cons.injEq, and_true] at hcs
  subst hcs
  simp only [if_true] at hmm
  subst hmm
  have hr := hx ▸ hs
  have hr2 := sized_sl hr ht
  rw [be] at hr2
  simp only [List.length_map, List.length_range, reachBytes] at hr2
  rw [ce] at hc
  have each : ∀ i, i < n → ∃ s : ByteArray, W.cell? (a.add i) = some (.string s) ∧ s.size ≤ maxLen := by
   intro i hi
   obtain ⟨cs', h1, h2⟩ := hc i (by omega)
   obtain ⟨_, hlen, hcell⟩ := World.cells?_some h1
   obtain ⟨s, rfl, _, hw⟩ := DataW.trod_string he h2
   have c0 := hcell 0 (by omega)
   rw [add_add] at c0
   exact ⟨s, by simpa using c0, hw⟩
  have inh : Inhabited ByteArray := ⟨default⟩
  obtain ⟨g, hg⟩ := choose_lt each
  refine ⟨some a, n, m, (List.range n).map g, rfl, ⟨by simp, by omega, ?_⟩, fun s hs => ?_⟩
  ·intro i hi
   have hi' : i < n := by simpa using hi
   have d0 := (hg i hi').1
   obtain ⟨b, off, spot⟩ := a
   have hspot : spot = none := by
    have := World.cell?_spot (hg 0 (by omega)).1
    simpa [Addr.add] using this
   subst hspot
   rw [add_none] at d0
   exact ⟨b, off, rfl, by rw [d0]; simp [List.getD_eq_getElem?_getD, hi']⟩
  ·rw [List.mem_map] at hs
   obtain ⟨i, hi, rfl⟩ := hs
   exact (hg i (List.mem_range.1 hi)).2
theorem open_caches {t ct st s bt b u i : TypeId} {g0 g1 g2 g3 g4 g5 f0 f1 f2 : Field}
    (ht : P.underlying t = some (.slice ct)) (hb : P.underlying ct = some (.struct #[g0, g1, g2, g3, g4, g5])) (hone : oneCellFields P #[g0, g1, g2, g3, g4, g5] = true) (cb : P.cellsOf ct = 6) (bb : P.bytesOf ct = 96) (t0 : g0.type = st) (t4 : g4.type = bt) (t5 : g5.type = u)
    (hst : P.underlying st = some (.slice s)) (hs1 : P.underlying s = some .string) (cs1 : P.cellsOf s = 1) (bs1 : P.bytesOf s = 16)
    (hbt : P.underlying bt = some (.slice b)) (he : P.underlying b = some (.struct #[f0, f1, f2])) (ce : P.cellsOf b = 3) (be : P.bytesOf b = 24) (hone2 : oneCellFields P #[f0, f1, f2] = true)
    (u0 : P.underlying f0.type = some (.int .i64)) (u1 : P.underlying f1.type = some (.int .i64)) (u2 : P.underlying f2.type = some (.int .i64))
    (hu : P.underlying u = some (.slice i)) (hi : P.underlying i = some (.int .i64)) (ci : P.cellsOf i = 1) (bi : P.bytesOf i = 8)
    (w1 : P.underlying g1.type = some (.int .i64)) (w2 : P.underlying g2.type = some (.int .i64)) (w3 : P.underlying g3.type = some (.int .i64))
    (hf : DataW.trod enc P W 0 (fun _ => true) true fuel t [v] = some y) (hs : Sized P t y.1) :
    ∃ ao n cap l, v = .slice ao n cap ∧ Chs W ao n l ∧ ∀ x ∈ l, x.Fits := by
 rcases open_slice ht hf with ⟨hcs, _⟩ | ⟨a, n, m0, m, fu, D, Pl, hcs, _, hl, hm, hmm, hx, hc⟩
 ·simp only [List.cons.injEq, and_true] at hcs
  subst hcs
  exact ⟨none, 0, 0, [], rfl, Chs.nil _, fun _ h => by cases h⟩
 ·simp only [List.cons.injEq, and_true] at hcs
  subst hcs
  simp only [if_true] at hmm
  subst hmm
  have hr := hx ▸ hs
  have hr2 := sized_sl hr ht
  rw [bb] at hr2
  simp only [List.length_map, List.length_range, reachBytes] at hr2
  rw [cb] at hc
  obtain ⟨o0, k0⟩ := hone_of hone 0 g0 rfl
  obtain ⟨o1, k1⟩ := hone_of hone 1 g1 rfl
  obtain ⟨o2, k2⟩ := hone_of hone 2 g2 rfl
  obtain ⟨o3, k3⟩ := hone_of hone 3 g3 rfl
  obtain ⟨o4, k4⟩ := hone_of hone 4 g4 rfl
  obtain ⟨o5, k5⟩ := hone_of hone 5 g5 rfl
  have each : ∀ i, i < n → ∃ r : Cc, r.At W ∧ r.Fits ∧ W.cell? (a.add (i * 6)) = some r.q.a ∧ W.cell? (a.add (i * 6 + 1)) = some r.q.b ∧ W.cell? (a.add (i * 6 + 2)) = some r.q.c ∧ W.cell? (a.add (i * 6 + 3)) = some r.q.d ∧ W.cell? (a.add (i * 6 + 4)) = some r.q.e ∧ W.cell? (a.add (i * 6 + 5)) = some r.q.f := by
   intro i hi
   obtain ⟨cs', h1, h2⟩ := hc i (by omega)
   obtain ⟨_, hlen, hcell⟩ := World.cells?_some h1
   obtain ⟨y0, y1, y2, y3, y4, y5, q, hD, _, q0, q1, q2, q3, q4, q5⟩ := trod_struct6 hb h2
   have hse : Sized P ct (D i) := sized_elem hr ht (by rw [List.mem_map]; exact ⟨i, List.mem_range.2 hi, rfl⟩)
   dsimp only at hD
   rw [hD] at hse
   have s0 : Sized P st y0.1 := sized_field hse hb (i := 0) (by simp [t0]) rfl
   have s4 : Sized P bt y4.1 := sized_field hse hb (i := 4) (by simp [t4]) rfl
   have s5 : Sized P u y5.1 := sized_field hse hb (i := 5) (by simp [t5]) rfl
   match cs', hlen with
   | [v0, v1, v2, v3, v4, v5], _ =>
    simp [o0, k0] at q0
    simp [o1, k1] at q1
    simp [o2, k2] at q2
    simp [o3, k3] at q3
    simp [o4, k4] at q4
    simp [o5, k5] at q5
    rw [t0] at q0
    rw [t4] at q4
    rw [t5] at q5
    obtain ⟨no, nn, nc, nl, rfl, hN, hNs⟩ := open_strs hst hs1 cs1 bs1 q0 s0
    obtain ⟨x1, e1, _, f1w⟩ := DataW.trod_int w1 q1
    obtain ⟨x2, e2, _, f2w⟩ := DataW.trod_int w2 q2
    obtain ⟨x3, e3, _, f3w⟩ := DataW.trod_int w3 q3
    simp only [List.cons.injEq, and_true] at e1 e2 e3
    subst e1 e2 e3
    obtain ⟨fo, fn, fc, fr, rfl, hF⟩ := open_blks hbt he ce be hone2 u0 u1 u2 q4 s4
    obtain ⟨to_, tn, tc, ty, rfl, hT, hTw⟩ := open_ints_wf hu ‹_› ci bi q5 s5
    have c0 := hcell 0 (by omega)
    have c1 := hcell 1 (by omega)
    have c2 := hcell 2 (by omega)
    have c3 := hcell 3 (by omega)
    have c4 := hcell 4 (by omega)
    have c5 := hcell 5 (by omega)
    rw [add_add] at c0 c1 c2 c3 c4 c5
    exact ⟨⟨⟨nl, x1, x2, x3, fr, ty⟩, no, nn, nc, fo, fn, fc, to_, tn, tc⟩, ⟨hN, ⟨hF.len, by have := hF.reach; have := hF.le; show fn * 24 ≤ _; omega, hF.at_⟩, ⟨hT.len, by have := hT.reach; have := hT.le; show tn * 8 ≤ _; omega, hT.at_⟩⟩, ⟨f1w, f2w, f3w, hF.wf, hNs, hTw⟩,
     by simpa [Cc.q] using c0, by simpa [Cc.q] using c1, by simpa [Cc.q] using c2, by simpa [Cc.q] using c3, by simpa [Cc.q] using c4, by simpa [Cc.q] using c5⟩
  have inh : Inhabited Cc := ⟨Cc.zero⟩
  obtain ⟨g, hg⟩ := choose_lt each
  have hget : ∀ i, i < n → (((List.range n).map g).map Cc.q).getD i .zero = (g i).q := by
   intro i hi
   simp [List.getD_eq_getElem?_getD, hi]
  have hmem : ∀ x ∈ (List.range n).map g, ∃ i, i < n ∧ x = g i := by
   intro x hx
   rw [List.mem_map] at hx
   obtain ⟨i, hi, rfl⟩ := hx
   exact ⟨i, List.mem_range.1 hi, rfl⟩
  refine ⟨some a, n, m, (List.range n).map g, rfl, ⟨by simp, by omega, ?_, fun x hx => ?_⟩, fun x hx => ?_⟩
  ·intro i hi
   have hi' : i < n := by simpa using hi
   obtain ⟨_, _, d0, d1, d2, d3, d4, d5⟩ := hg i hi'
   obtain ⟨b, off, spot⟩ := a
   have hspot : spot = none := by
    have := World.cell?_spot (hg 0 (by omega)).2.2.1
    simpa [Addr.add] using this
   subst hspot
   rw [add_none] at d0 d1 d2 d3 d4 d5
   rw [hget i hi']
   exact ⟨b, off, rfl, d0, by rw [Nat.add_assoc]; exact d1, by rw [Nat.add_assoc]; exact d2, by rw [Nat.add_assoc]; exact d3, by rw [Nat.add_assoc]; exact d4, by rw [Nat.add_assoc]; exact d5⟩
  ·obtain ⟨i, hi, rfl⟩ := hmem x hx
   exact (hg i hi).1
  ·obtain ⟨i, hi, rfl⟩ := hmem x hx
   exact (hg i hi).2.1
end
structure SysTypes (P : Program) (syt ht ist it cst ct sst st slst slt : TypeId) : Prop where
 sys : ∃ f0 f1 f2 : Field, P.underlying syt = some (.struct #[f0, f1, f2]) ∧ f0.offset = 0 ∧ f1.offset = 1 ∧ f2.offset = 6 ∧ f0.type = ist ∧ f1.type = ht ∧ f2.type = cst
 sc : P.cellsOf syt = 7
 c0 : P.cellsOf ist = 1
 c2 : P.cellsOf cst = 1
 caches : P.underlying cst = some (.slice ct)
 cache : ∃ f0 f1 f2 f3 f4 f5 : Field, P.underlying ct = some (.struct #[f0, f1, f2, f3, f4, f5]) ∧ oneCellFields P #[f0, f1, f2, f3, f4, f5] = true ∧ f0.type = sst ∧ f1.type = it ∧ f2.type = it ∧ f3.type = it ∧ f4.type = slst ∧ f5.type = ist
 ccell : P.cellsOf ct = 6
 cbytes : P.bytesOf ct = 96
 strs : P.underlying sst = some (.slice st)
 str : P.underlying st = some .string
 scell : P.cellsOf st = 1
 sbytes : P.bytesOf st = 16
 slabs : P.underlying slst = some (.slice slt)
 slab : ∃ f0 f1 f2 : Field, P.underlying slt = some (.struct #[f0, f1, f2]) ∧ oneCellFields P #[f0, f1, f2] = true ∧ f0.type = it ∧ f1.type = it ∧ f2.type = it
 lcell : P.cellsOf slt = 3
 lbytes : P.bytesOf slt = 24
theorem array7 {α : Type} {cs : Array α} (h : cs.size = 7) : ∃ c0 c1 c2 c3 c4 c5 c6, cs = #[c0, c1, c2, c3, c4, c5, c6] := by
 obtain ⟨l⟩ := cs
 match l, h with
 | [c0, c1, c2, c3, c4, c5, c6], _ => exact ⟨c0, c1, c2, c3, c4, c5, c6, rfl⟩
theorem open_heap_cells {H : Type} {enc : TypeId × Value → H} {P : Program} {W : World} {ht zst zt bst bt ist it lst lt : TypeId} (T : HeapTypes P ht zst zt bst bt ist it lst lt) {fuel : Nat} {v0 v1 v2 v3 v4 : Value} {y : DataW H × List MemPlace}
    (hf : DataW.trod enc P W 0 (fun _ => true) true fuel ht [v0, v1, v2, v3, v4] = some y) (hs : Sized P ht y.1) :
    ∃ x : Hx, v0 = .slice x.zo x.zn x.zc ∧ v1 = .slice x.mo x.mn x.mc ∧ v2 = .int .i64 x.cpus ∧ v3 = .slice x.lo x.ln x.lc ∧ v4 = .slice x.vo x.vn x.vc ∧ IsHeap W x := by
 obtain ⟨f0, f1, f2, f3, f4, a1, hone, a3, a4, a5, a6, a7⟩ := T.heap
 obtain ⟨xs, n, _, rfl, hl, hlen, hx⟩ := DataW.trod_struct a1 hf
 obtain ⟨o0, k0⟩ := hone_of hone 0 f0 rfl
 obtain ⟨o1, k1⟩ := hone_of hone 1 f1 rfl
 obtain ⟨o2, k2⟩ := hone_of hone 2 f2 rfl
 obtain ⟨o3, k3⟩ := hone_of hone 3 f3 rfl
 obtain ⟨o4, k4⟩ := hone_of hone 4 f4 rfl
 match xs, hlen with
 | [y0, y1, y2, y3, y4], _ =>
  have h0 : DataW.trod enc P W 0 (fun _ => true) true n f0.type [v0] = some y0 := by simpa [o0, k0] using hx 0 f0 rfl
  have h1 : DataW.trod enc P W 0 (fun _ => true) true n f1.type [v1] = some y1 := by simpa [o1, k1] using hx 1 f1 rfl
  have h2 : DataW.trod enc P W 0 (fun _ => true) true n f2.type [v2] = some y2 := by simpa [o2, k2] using hx 2 f2 rfl
  have h3 : DataW.trod enc P W 0 (fun _ => true) true n f3.type [v3] = some y3 := by simpa [o3, k3] using hx 3 f3 rfl
  have h4 : DataW.trod enc P W 0 (fun _ => true) true n f4.type [v4] = some y4 := by simpa [o4, k4] using hx 4 f4 rfl
  have s0 : Sized P zst y0.1 := sized_field hs a1 (i := 0) (by simp [a3]) rfl
  have s1 : Sized P ist y1.1 := sized_field hs a1 (i := 1) (by simp [a4]) rfl
  have s3 : Sized P lst y3.1 := sized_field hs a1 (i := 3) (by simp [a6]) rfl
  have s4 : Sized P bst y4.1 := sized_field hs a1 (i := 4) (by simp [a7]) rfl
  rw [a3] at h0
  rw [a4] at h1
  rw [a5] at h2
  rw [a6] at h3
  rw [a7] at h4
  exact open_heap_in T h0 h1 h2 h3 h4 s0 s1 s3 s4
def Sy.vals (x : Sy) : List Value := [.slice x.wo x.wn x.wc, .slice x.h.zo x.h.zn x.h.zc, .slice x.h.mo x.h.mn x.h.mc, .int .i64 x.h.cpus, .slice x.h.lo x.h.ln x.h.lc, .slice x.h.vo x.h.vn x.h.vc, .slice x.co x.cn x.cc]
theorem open_sys_arg {H : Type} {enc : TypeId × Value → H} {P : Program} {W : World} {base : Nat} {syt cst ct sst st slst slt ht zst zt bst bt ist it lst lt : TypeId} (T : HeapTypes P ht zst zt bst bt ist it lst lt) (S : SysTypes P syt ht ist it cst ct sst st slst slt) {v : Value} {d : DataW H} {p : List MemPlace}
    (hv : Value.okWide P W .any base syt v) (h : DataW.Trod enc P W 0 (fun _ => true) true syt v d p) (hs : Sized P syt d) :
    ∃ x : Sy, v = .agg #[.slice x.wo x.wn x.wc, .slice x.h.zo x.h.zn x.h.zc, .slice x.h.mo x.h.mn x.h.mc, .int .i64 x.h.cpus, .slice x.h.lo x.h.ln x.h.lc, .slice x.h.vo x.h.vn x.h.vc, .slice x.co x.cn x.cc] ∧ IsSys W x := by
 obtain ⟨f0, f1, f2, a1, o0, o1, o2, a3, a4, a5⟩ := S.sys
 obtain ⟨cs, rfl, hsz⟩ := okWide_struct a1 hv
 obtain ⟨c0, c1, c2, c3, c4, c5, c6, rfl⟩ := array7 (hsz.trans S.sc)
 obtain ⟨fuel, hf⟩ := h
 obtain ⟨xs, n, _, hD, hl, hlen, hx⟩ := DataW.trod_struct a1 hf
 simp only [Prod.mk.injEq] at hD
 match xs, hlen with
 | [y0, y1, y2], _ =>
  obtain ⟨hD, _⟩ := hD
  subst hD
  have h0 : DataW.trod enc P W 0 (fun _ => true) true n ist [c0] = some y0 := by simpa [Value.cells, o0, a3, S.c0] using hx 0 f0 rfl
  have h1 : DataW.trod enc P W 0 (fun _ => true) true n ht [c1, c2, c3, c4, c5] = some y1 := by simpa [Value.cells, o1, a4, T.hc] using hx 1 f1 rfl
  have h2 : DataW.trod enc P W 0 (fun _ => true) true n cst [c6] = some y2 := by simpa [Value.cells, o2, a5, S.c2] using hx 2 f2 rfl
  have s0 : Sized P ist y0.1 := sized_field hs a1 (i := 0) (by simp [a3]) rfl
  have s1 : Sized P ht y1.1 := sized_field hs a1 (i := 1) (by simp [a4]) rfl
  have s2 : Sized P cst y2.1 := sized_field hs a1 (i := 2) (by simp [a5]) rfl
  obtain ⟨wo, wn, wc, ws, rfl, hW⟩ := open_ints_in T.ints T.int T.icell T.ibytes h0 s0
  obtain ⟨hx', rfl, rfl, rfl, rfl, rfl, hH⟩ := open_heap_cells T h1 s1
  obtain ⟨g0, g1, g2, g3, g4, g5, b1, b2, b3, b4, b5, b6, b7, b8⟩ := S.cache
  obtain ⟨l0, l1, l2, d1, d2, d3, d4, d5⟩ := S.slab
  obtain ⟨co, cn, cc, cl, rfl, hC, hCf⟩ := open_caches S.caches b1 b2 S.ccell S.cbytes b3 b7 b8 S.strs S.str S.scell S.sbytes S.slabs d1 S.lcell S.lbytes d2 (by rw [d3]; exact T.int) (by rw [d4]; exact T.int) (by rw [d5]; exact T.int) T.ints T.int T.icell T.ibytes (by rw [b4]; exact T.int) (by rw [b5]; exact T.int) (by rw [b6]; exact T.int) h2 s2
  exact ⟨⟨ws, wo, wn, wc, hx', cl, co, cn, cc⟩, rfl, ⟨⟨hW.len, by have := hW.reach; have := hW.le; show wn * 8 ≤ _; omega, hW.at_⟩, hH, hC, hCf⟩⟩
end Go.Proofs.Ytnijjpakpphhhaa.Kit
namespace Go.Proofs.Ytnijjpakpphhhaa
open Go Go.RowKit Go.Proofs.Ytnijjpakpphhhaa.Kit
theorem info_int : (Try.prog.info? 3).map (fun i => (i.zero, i.size, i.bytes)) = some (some (.int .i64 0), 1, 8) := by kernel_rfl
theorem size_int : (Try.prog.info? 3).map (·.size) = some 1 := by kernel_rfl
end Go.Proofs.Ytnijjpakpphhhaa
namespace Go.Proofs.Ytnijjpakpphhhaa.Kit
open Go Go.RowKit
def RetAny (w' : World) (Z : Zn) (c : Int) (e : Ending) : Prop :=
 ∃ fo fn fc to_ tn tc, e = .returned (.tuple #[.agg #[.int .i64 Z.f, .int .i64 Z.t, .slice fo fn fc, .slice to_ tn tc], .int .i64 c]) ∧ ZnAt w' fo fn to_ tn Z
def RetZ (B : Nat) (w' : World) (z : Zn) (e : Ending) : Prop :=
 ∃ fo fn fc to_ tn tc, e = .returned (.agg #[.int .i64 z.f, .int .i64 z.t, .slice fo fn fc, .slice to_ tn tc]) ∧ ZnAt w' fo fn to_ tn z ∧ Fresh B fo ∧ Fresh B to_
theorem RetZone.any {B : Nat} {w' : World} {Z : Zn} {e : Ending} (h : RetZone B w' Z e) : RetAny w' Z 0 e := by
 obtain ⟨fo, fn, fc, to_, tn, tc, he, hz, _, _⟩ := h
 exact ⟨fo, fn, fc, to_, tn, tc, he, hz⟩
theorem RetNone.any {c : Int} {w' : World} {e : Ending} (h : RetNone c e) : RetAny w' ⟨0, 0, [], []⟩ c e :=
 ⟨none, 0, 0, none, 0, 0, h, ⟨Blks.nil _, Nums.nil _⟩⟩
end Go.Proofs.Ytnijjpakpphhhaa.Kit
namespace Go.Proofs.Ytnijjpakpphhhaa
open Go Go.RowKit Go.Proofs.Ytnijjpakpphhhaa.Kit
theorem info_block : (Try.prog.info? 72).map (fun i => (i.zero, i.size, i.bytes)) = some (some (.agg #[.int .i64 0, .int .i64 0, .int .i64 0]), 3, 24) := by kernel_rfl
theorem size_block : (Try.prog.info? 72).map (·.size) = some 3 := by kernel_rfl
theorem info_zone : (Try.prog.info? 70).map (fun i => (i.zero, i.size, i.bytes)) = some (some (.agg #[.int .i64 0, .int .i64 0, .slice none 0 0, .slice none 0 0]), 4, 64) := by kernel_rfl
theorem info_list : (Try.prog.info? 77).map (fun i => (i.zero, i.size, i.bytes)) = some (some (.agg #[.int .i64 0, .int .i64 0, .int .i64 0, .slice none 0 0]), 4, 48) := by kernel_rfl
theorem size_zone : (Try.prog.info? 70).map (·.size) = some 4 := by kernel_rfl
theorem size_list : (Try.prog.info? 77).map (·.size) = some 4 := by kernel_rfl
theorem heapTypes : HeapTypes Try.prog 27 23 70 25 72 22 3 24 77 where
 heap := ⟨_, _, _, _, _, Try.underlying27, by kernel_rfl, rfl, rfl, rfl, rfl, rfl⟩
 hc := by kernel_rfl
 zones := Try.underlying23
 zone := ⟨_, _, _, _, Try.underlying70, by kernel_rfl, rfl, rfl, rfl, rfl⟩
 zcell := by kernel_rfl
 zbytes := by kernel_rfl
 blocks := Try.underlying25
 block := ⟨_, _, _, Try.underlying72, by kernel_rfl, rfl, rfl, rfl⟩
 bcell := by kernel_rfl
 bbytes := by kernel_rfl
 ints := Try.underlying22
 int := Try.underlying3
 icell := by kernel_rfl
 ibytes := by kernel_rfl
 lists := Try.underlying24
 list := ⟨_, _, _, _, Try.underlying77, by kernel_rfl, rfl, rfl, rfl, rfl⟩
 lcell := by kernel_rfl
 lbytes := by kernel_rfl
end Go.Proofs.Ytnijjpakpphhhaa
namespace Go.Proofs.Ytnijjpakpphhhaa.Kit
open Go Go.RowKit
def look : List (Nat × Value) → Nat → Option Value
 | [], _ => none
 | p :: r, i => bif Nat.beq p.1 i then some p.2 else look r i
structure Fr (A : Act) (N : Nat) (L : List (Nat × Value)) : Prop where
 size : A.tmps.size = N
 defs : A.defers = []
 at_ : ∀ i v, look L i = some v → A.tmps.getD i undef = v
theorem Fr.put {A : Act} {N : Nat} {L : List (Nat × Value)} (f : Fr A N L) (d : Nat) (v : Value) (hd : d < N) : Fr (A.put (some d) v) N ((d, v) :: L) := by
 refine ⟨by simpa [Act.put] using f.size, f.defs, fun i u h => ?_⟩
 unfold look at h
 by_cases e : d = i
 ·subst e
  have : Nat.beq d d = true := Nat.beq_refl d
  simp only [this, cond_true, Option.some.injEq] at h
  subst h
  have hs := f.size
  simp [Act.put, Array.getD_eq_getD_getElem?, hs, hd]
 ·have : Nat.beq d i = false := by
   cases hb : Nat.beq d i with
   | false => rfl
   | true => exact absurd (Nat.eq_of_beq_eq_true hb) e
  simp only [this, cond_false] at h
  have := f.at_ i u h
  simpa [Act.put, Array.getD_eq_getD_getElem?, Array.getElem?_setIfInBounds, e] using this
theorem Fr.put0 {A : Act} {N : Nat} {L : List (Nat × Value)} (f : Fr A N L) (v : Value) : Fr (A.put none v) N L := f
def ev (L : List (Nat × Value)) : Operand → Option Value
 | .tmp t => look L t
 | .const v => some v
 | .global g => some (.pointer (some ⟨g, 0, none⟩))
 | .func f => some (.func (.func f) #[] #[])
theorem Fr.ev {A : Act} {N : Nat} {L : List (Nat × Value)} (f : Fr A N L) {x : Operand} {v : Value} (h : ev L x = some v) : A.eval x = v := by
 cases x with
 | tmp t => exact f.at_ t v h
 | const c => exact Option.some.inj h
 | global g => exact Option.some.inj h
 | func g => exact Option.some.inj h
def looks (L : List (Nat × Value)) : List (Nat × Value) → Prop
 | [] => True
 | p :: r => look L p.1 = some p.2 ∧ looks L r
theorem looks_look {L : List (Nat × Value)} : ∀ {M : List (Nat × Value)}, looks L M → ∀ i v, look M i = some v → look L i = some v
 | [], _, i, v, h => by cases h
 | p :: r, h, i, v, g => by
  unfold look at g
  cases hb : Nat.beq p.1 i with
  | true =>
   rw [hb] at g
   have e := Nat.eq_of_beq_eq_true hb
   subst e
   cases g
   exact h.1
  | false =>
   rw [hb] at g
   exact looks_look h.2 i v g
theorem Fr.sub {A : Act} {N : Nat} {L : List (Nat × Value)} (f : Fr A N L) {M : List (Nat × Value)} (h : looks L M) : Fr A N M :=
 ⟨f.size, f.defs, fun i v g => f.at_ i v (looks_look h i v g)⟩
def argL (args : List Value) (k : Nat) : List (Nat × Value) :=
 match args with
 | [] => []
 | v :: r => (k, v) :: argL r (k + 1)
theorem argL_look : ∀ (args : List Value) (k i : Nat) (v : Value), look (argL args k) i = some v → ∃ j, i = k + j ∧ args[j]? = some v
 | [], _, _, _, h => by cases h
 | u :: r, k, i, v, h => by
  unfold argL look at h
  cases hb : Nat.beq k i with
  | true =>
   rw [hb] at h
   have e := Nat.eq_of_beq_eq_true hb
   exact ⟨0, by omega, by cases h; rfl⟩
  | false =>
   rw [hb] at h
   obtain ⟨j, e, g⟩ := argL_look r (k + 1) i v h
   exact ⟨j + 1, by omega, by simpa using g⟩
theorem Fr.enter (args : List Value) (N : Nat) (h : args.length ≤ N) : Fr ⟨args.toArray ++ Array.replicate (N - args.toArray.size) undef, []⟩ N (argL args 0) := by
 refine ⟨by simp; omega, rfl, fun i v g => ?_⟩
 obtain ⟨j, e, g⟩ := argL_look args 0 i v g
 have hj : j < args.length := (List.getElem?_eq_some_iff.1 g).1
 obtain rfl : i = j := by omega
 simp only [Array.getD_eq_getD_getElem?]
 rw [Array.getElem?_append_left (by simpa using hj)]
 simpa using congrArg (fun o => Option.getD o undef) g
theorem sx_enter {P : Program} {f : FuncId} {fn : Func} {c : Code} {args : List Value} {w : World} {R : Ending → World → Prop} (N : Nat)
    (hf : P.funcs[f]? = some fn) (hb : fn.body = some c) (hN : fn.ntmps = N) (hl : Nat.ble args.length N = true)
    (h : ∀ A, Fr A N (argL args 0) → c.wp P (bodyPost P fn R) A w) : Calls P f args.toArray w R :=
 calls_of_wp hf hb (by rw [hN]; exact h _ (Fr.enter args N (Nat.le_of_ble_eq_true hl)))
def wantB (ops : List Oper) (L : List (Nat × Value)) (o : Oper) : Option Bool :=
 match o.guard with
 | none => some true
 | some (j, b) =>
  match ops[j]? with
  | none => none
  | some oj =>
   match oj.dst with
   | none => none
   | some d =>
    match look L d with
    | some (.bool c) => some (bif b then c else !c)
    | some _ => some false
    | none => none
theorem Fr.wanted {A : Act} {N : Nat} {L : List (Nat × Value)} (f : Fr A N L) {ops : List Oper} {o : Oper} {c : Bool} (h : wantB ops L o = some c) : Region.wanted o (yielded ops.toArray A.tmps) = c := by
 unfold wantB at h
 unfold Region.wanted
 cases hg : o.guard with
 | none => rw [hg] at h; simpa using h
 | some p =>
  obtain ⟨j, b⟩ := p
  rw [hg] at h
  simp only at h ⊢
  cases ho : ops[j]? with
  | none => rw [ho] at h; cases h
  | some oj =>
   rw [ho] at h
   simp only at h
   cases hd : oj.dst with
   | none => rw [hd] at h; cases h
   | some d =>
    rw [hd] at h
    simp only at h
    cases hv : look L d with
    | none => rw [hv] at h; cases h
    | some v =>
     rw [hv] at h
     have hat := f.at_ d v hv
     cases v with
     | bool q =>
      simp only [Option.some.injEq] at h
      have ht : A.tmps[d]? = some (.bool q) := by
       rw [Array.getD_eq_getD_getElem?] at hat
       cases hx : A.tmps[d]? with
       | none => rw [hx] at hat; cases hat
       | some y => rw [hx] at hat; simp only [Option.getD_some] at hat; rw [hat]
      unfold yielded
      rw [List.getElem?_toArray, ho]
      simp only [Option.bind_some, hd, ht]
      subst h
      cases b <;> cases q <;> rfl
     | _ =>
      simp only [Option.some.injEq] at h
      subst h
      unfold yielded
      rw [List.getElem?_toArray, ho]
      simp only [Option.bind_some, hd]
      rw [Array.getD_eq_getD_getElem?] at hat
      cases hx : A.tmps[d]? with
      | none => cases b <;> rfl
      | some y =>
       rw [hx] at hat
       simp only [Option.getD_some] at hat
       subst hat
       cases b <;> rfl
def YC (P : Program) (C : World → Prop) (L : List (Nat × Value)) (o : Oper) (v : Value) : Prop :=
 ∀ ρ : Operand → Value, (∀ x u, ev L x = some u → ρ x = u) → ∀ wx, C wx → (execOp ρ o).run P wx = .ok (.value v) wx
def StC (C : World → Prop) (p : Addr) (v : Value) : Prop := ∀ wx, C wx → wx.cell? p = some v
def ClB (w : World) (wx : World) : Prop := Below w.heap.size w wx
def St (w : World) (p : Addr) (v : Value) : Prop := ∀ wx, Below w.heap.size w wx → wx.cell? p = some v
theorem Below.next {w w' wx : World} (h : Below w.heap.size w w') (h' : Below w'.heap.size w' wx) : Below w.heap.size w wx := h.trans (h'.mono h.size)
theorem St.next {w w' : World} {p : Addr} {v : Value} (h : St w p v) (hb : Below w.heap.size w w') : St w' p v := fun wx hx => h wx (Below.next hb hx)
theorem St.of {w : World} {b o : Nat} {v : Value} (h : w.cell? ⟨b, o, none⟩ = some v) : St w ⟨b, o, none⟩ v := fun _ hx => keep h hx
theorem St.now {w : World} {p : Addr} {v : Value} (h : St w p v) : w.cell? p = some v := h w (Below.refl _ _)
section
variable {P : Program} {A : Act} {N : Nat} {L : List (Nat × Value)} {l rest : List Oper} {o : Oper} {w : World} {C : World → Prop}
theorem sx_quiet {id : Nat} {Q : Exit → Act → World → Prop} (hm : P.follows .mixedOrders = true) (hB : Region.lexB .any l.toArray = true)
    (h : wpQuiet P l.toArray (ClB w) (fun a' => ∀ w', ClB w w' → Q .normal a' w') l A) : (Code.region id l.toArray true).wp P Q A w :=
 wp_region_quiet (C := ClB w) hm hB ((Below.refl w.heap.size w).drew) (by simpa using h)
theorem sx_list {id : Nat} {Q : Exit → Act → World → Prop} (h : wpList P l.toArray Q l A w) : (Code.region id l.toArray false).wp P Q A w := wp_region_lit h
theorem q_do {Q : Act → Prop} {d : Nat} {v : Value} (f : Fr A N L) (hd : o.dst = some d) (hN : Nat.blt d N = true) (hw : wantB l L o = some true) (hy : YC P C L o v)
    (h : ∀ A', Fr A' N ((d, v) :: L) → wpQuiet P l.toArray C Q rest A') : wpQuiet P l.toArray C Q (o :: rest) A := by
 unfold wpQuiet
 rw [if_pos (f.wanted hw)]
 refine ⟨v, fun wx hx => ?_, ?_⟩
 ·unfold Oper.quietAt
  rw [hy A.eval (fun x u hu => f.ev hu) wx hx]
  exact ⟨rfl, rfl⟩
 ·rw [hd]
  exact h _ (f.put d v (by simpa [Nat.blt_eq] using hN))
theorem q_no {Q : Act → Prop} {d : Nat} (f : Fr A N L) (hd : o.dst = some d) (hN : Nat.blt d N = true) (hw : wantB l L o = some false)
    (h : ∀ A', Fr A' N ((d, undef) :: L) → wpQuiet P l.toArray C Q rest A') : wpQuiet P l.toArray C Q (o :: rest) A := by
 unfold wpQuiet
 rw [if_neg (by rw [f.wanted hw]; exact Bool.false_ne_true), hd]
 exact h _ (f.put d undef (by simpa [Nat.blt_eq] using hN))
theorem l_do {Q : Exit → Act → World → Prop} {d : Nat} {v : Value} (f : Fr A N L) (hd : o.dst = some d) (hN : Nat.blt d N = true) (hw : wantB l L o = some true) (hy : YC P (ClB w) L o v)
    (h : ∀ A', Fr A' N ((d, v) :: L) → wpList P l.toArray Q rest A' w) : wpList P l.toArray Q (o :: rest) A w := by
 unfold wpList
 rw [if_pos (f.wanted hw)]
 left
 unfold Oper.wp
 rw [hy A.eval (fun x u hu => f.ev hu) w (Below.refl _ _), Oper.upon_value, hd]
 exact h _ (f.put d v (by simpa [Nat.blt_eq] using hN))
theorem l_no {Q : Exit → Act → World → Prop} {d : Nat} (f : Fr A N L) (hd : o.dst = some d) (hN : Nat.blt d N = true) (hw : wantB l L o = some false)
    (h : ∀ A', Fr A' N ((d, undef) :: L) → wpList P l.toArray Q rest A' w) : wpList P l.toArray Q (o :: rest) A w := by
 unfold wpList
 rw [if_neg (by rw [f.wanted hw]; exact Bool.false_ne_true), hd]
 exact h _ (f.put d undef (by simpa [Nat.blt_eq] using hN))
theorem q_if {Q : Act → Prop} {d : Nat} (p : Prop) [Decidable p] (f : Fr A N L) (hd : o.dst = some d) (hN : Nat.blt d N = true) (hw : wantB l L o = some true) (hy : YC P C L o (.bool (decide p)))
    (ht : p → ∀ A', Fr A' N ((d, .bool true) :: L) → wpQuiet P l.toArray C Q rest A') (hf : ¬ p → ∀ A', Fr A' N ((d, .bool false) :: L) → wpQuiet P l.toArray C Q rest A') : wpQuiet P l.toArray C Q (o :: rest) A := by
 refine q_do f hd hN hw hy ?_
 by_cases hp : p
 ·rw [decide_eq_true hp]; exact ht hp
 ·rw [decide_eq_false hp]; exact hf hp
theorem l_if {Q : Exit → Act → World → Prop} {d : Nat} (p : Prop) [Decidable p] (f : Fr A N L) (hd : o.dst = some d) (hN : Nat.blt d N = true) (hw : wantB l L o = some true) (hy : YC P (ClB w) L o (.bool (decide p)))
    (ht : p → ∀ A', Fr A' N ((d, .bool true) :: L) → wpList P l.toArray Q rest A' w) (hf : ¬ p → ∀ A', Fr A' N ((d, .bool false) :: L) → wpList P l.toArray Q rest A' w) : wpList P l.toArray Q (o :: rest) A w := by
 refine l_do f hd hN hw hy ?_
 by_cases hp : p
 ·rw [decide_eq_true hp]; exact ht hp
 ·rw [decide_eq_false hp]; exact hf hp
def Plain (P : Program) (g : FuncId) : Prop := ∀ args W, (callFunc g args).run P W = .ok (.enter g args) W
def evs (L : List (Nat × Value)) : List Operand → Option (List Value)
 | [] => some []
 | x :: r => match ev L x, evs L r with
  | some v, some vs => some (v :: vs)
  | _, _ => none
theorem evs_map {ρ : Operand → Value} (hρ : ∀ x u, ev L x = some u → ρ x = u) : ∀ {xs : List Operand} {vs : List Value}, evs L xs = some vs → xs.map ρ = vs
 | [], vs, h => by cases h; rfl
 | x :: r, vs, h => by
  unfold evs at h
  cases h1 : ev L x with
  | none => rw [h1] at h; cases h
  | some v =>
   cases h2 : evs L r with
   | none => rw [h1, h2] at h; cases h
   | some us =>
    rw [h1, h2] at h
    cases h
    rw [List.map_cons, hρ x v h1, evs_map hρ h2]
structure IsCall (L : List (Nat × Value)) (o : Oper) (g : FuncId) (args : List Value) : Prop where
 ex : ∃ x xs tys cap vs, o.op = .call ⟨.value x, xs.toArray, tys⟩ ∧ ev L x = some (.func (.func g) #[] cap) ∧ evs L xs = some vs ∧ args = vs ++ cap.toList
theorem IsCall.mk' {g : FuncId} {x : Operand} {xs : List Operand} {tys : Array TypeId} {cap : List Value} {vs : List Value} (h1 : o.op = .call ⟨.value x, xs.toArray, tys⟩) (h2 : ev L x = some (.func (.func g) #[] cap.toArray)) (h3 : evs L xs = some vs) : IsCall L o g (vs ++ cap) :=
 ⟨x, xs, tys, cap.toArray, vs, h1, h2, h3, by simp⟩
theorem IsCall.run {g : FuncId} {args : List Value} (h : IsCall L o g args) (hp : Plain P g) {ρ : Operand → Value} (hρ : ∀ x u, ev L x = some u → ρ x = u) (W : World) : (execOp ρ o).run P W = .ok (.enter g args.toArray) W := by
 obtain ⟨x, xs, tys, cap, vs, h1, h2, h3, rfl⟩ := h
 have e1 := hρ _ _ h2
 have e2 := evs_map hρ h3
 have := hp (vs ++ cap.toList).toArray W
 have e3 : vs.toArray ++ cap = (vs ++ cap.toList).toArray := by simp
 simp [execOp, h1, resolve, Deferred.ofValue, e1, e2, invoke, go_sem, e3]
 simpa using this
theorem l_call {Q : Exit → Act → World → Prop} {d : Nat} {g : FuncId} {args : List Value} {R : Ending → World → Prop} (f : Fr A N L) (hd : o.dst = some d) (hN : Nat.blt d N = true) (hw : wantB l L o = some true) (hc : IsCall L o g args) (hp : Plain P g)
    (hR : Calls P g args.toArray w R) (h : ∀ e w', R e w' → ∃ v, e = .returned v ∧ ∀ A', Fr A' N ((d, v) :: L) → wpList P l.toArray Q rest A' w') : wpList P l.toArray Q (o :: rest) A w := by
 unfold wpList
 rw [if_pos (f.wanted hw)]
 left
 unfold Oper.wp
 rw [hc.run hp (fun x u hu => f.ev hu) w, Oper.upon_enter]
 refine hR.mono fun e w' he => ?_
 obtain ⟨v, rfl, hk⟩ := h e w' he
 rw [hd]
 exact hk _ (f.put d v (by simpa [Nat.blt_eq] using hN))
theorem q_call {Q : Act → Prop} {d : Nat} {g : FuncId} {args : List Value} {v : Value} (f : Fr A N L) (hd : o.dst = some d) (hN : Nat.blt d N = true) (hw : wantB l L o = some true) (hc : IsCall L o g args) (hp : Plain P g)
    (hR : ∀ wx, C wx → Calls P g args.toArray wx fun e w' => e = .returned v ∧ C w') (h : ∀ A', Fr A' N ((d, v) :: L) → wpQuiet P l.toArray C Q rest A') : wpQuiet P l.toArray C Q (o :: rest) A := by
 unfold wpQuiet
 rw [if_pos (f.wanted hw)]
 refine ⟨v, fun wx hx => ?_, ?_⟩
 ·unfold Oper.quietAt
  rw [hc.run hp (fun x u hu => f.ev hu) wx]
  refine ⟨rfl, (hR wx hx).mono ?_⟩
  rintro e w' ⟨rfl, hb⟩
  exact ⟨rfl, hb⟩
 ·rw [hd]
  exact h _ (f.put d v (by simpa [Nat.blt_eq] using hN))
def StsC (C : World → Prop) (b : Nat) : Nat → List Value → Prop
 | _, [] => True
 | o, v :: r => StC C ⟨b, o, none⟩ v ∧ StsC C b (o + 1) r
theorem StsC.at {wx : World} {b : Nat} (hb : C wx) : ∀ {l : List Value} {o : Nat}, StsC C b o l → ∀ j v, l[j]? = some v → wx.cell? ((⟨b, o, none⟩ : Addr).add j) = some v
 | [], _, _, j, v, h => by simp at h
 | u :: r, o, h, 0, v, g => by
  simp at g; subst g
  simpa [Addr.add] using h.1 wx hb
 | u :: r, o, h, j + 1, v, g => by
  have := StsC.at hb h.2 j v (by simpa using g)
  have e : (⟨b, o + 1, none⟩ : Addr).add j = (⟨b, o, none⟩ : Addr).add (j + 1) := by unfold Addr.add; split <;> simp_all <;> omega
  rw [← e]; exact this
def Sts (w : World) (b : Nat) : Nat → List Value → Prop
 | _, [] => True
 | o, v :: r => St w ⟨b, o, none⟩ v ∧ Sts w b (o + 1) r
theorem q_callif {Q : Act → Prop} {d : Nat} {g : FuncId} {args : List Value} (p : Prop) [Decidable p] (f : Fr A N L) (hd : o.dst = some d) (hN : Nat.blt d N = true) (hw : wantB l L o = some true) (hc : IsCall L o g args) (hp : Plain P g)
    (hR : ∀ wx, C wx → Calls P g args.toArray wx fun e w' => e = .returned (.bool (decide p)) ∧ C w')
    (ht : p → ∀ A', Fr A' N ((d, .bool true) :: L) → wpQuiet P l.toArray C Q rest A') (hf : ¬ p → ∀ A', Fr A' N ((d, .bool false) :: L) → wpQuiet P l.toArray C Q rest A') : wpQuiet P l.toArray C Q (o :: rest) A := by
 refine q_call f hd hN hw hc hp hR ?_
 by_cases hp : p
 ·rw [decide_eq_true hp]; exact ht hp
 ·rw [decide_eq_false hp]; exact hf hp
theorem l_callif {Q : Exit → Act → World → Prop} {d : Nat} {g : FuncId} {args : List Value} (p : Prop) [Decidable p] (f : Fr A N L) (hd : o.dst = some d) (hN : Nat.blt d N = true) (hw : wantB l L o = some true) (hc : IsCall L o g args) (hp : Plain P g)
    (hR : Calls P g args.toArray w fun e w' => e = .returned (.bool (decide p)) ∧ Below w.heap.size w w')
    (ht : p → ∀ W, Below w.heap.size w W → ∀ A', Fr A' N ((d, .bool true) :: L) → wpList P l.toArray Q rest A' W) (hf : ¬ p → ∀ W, Below w.heap.size w W → ∀ A', Fr A' N ((d, .bool false) :: L) → wpList P l.toArray Q rest A' W) : wpList P l.toArray Q (o :: rest) A w := by
 refine l_call f hd hN hw hc hp hR ?_
 rintro e W ⟨rfl, hb⟩
 refine ⟨_, rfl, ?_⟩
 by_cases hp : p
 ·rw [decide_eq_true hp]; exact ht hp W hb
 ·rw [decide_eq_false hp]; exact hf hp W hb
theorem St.q {p : Addr} {v : Value} {w0 : World} (h : St w0 p v) (hb : Below w0.heap.size w0 w) : StC (ClB w) p v := fun wx hx => h wx (Below.next hb hx)
theorem St.c {p : Addr} {v : Value} {w0 : World} (h : St w0 p v) (hb : ∀ wx, C wx → Below w0.heap.size w0 wx) : StC C p v := fun wx hx => h wx (hb wx hx)
theorem c_cl {g : FuncId} {args : Array Value} {v : Value} (h : ∀ wx, Calls P g args wx fun e w' => e = .returned v ∧ Below wx.heap.size wx w') : ∀ wx, ClB w wx → Calls P g args wx fun e w' => e = .returned v ∧ ClB w w' := fun wx hx => (h wx).mono fun _ _ ⟨a, b⟩ => ⟨a, Below.next hx b⟩
theorem c_clb {g : FuncId} {args : Array Value} {v : Value} (h : ∀ wx, Below w.heap.size w wx → Calls P g args wx fun e w' => e = .returned v ∧ Below wx.heap.size wx w') : ∀ wx, ClB w wx → Calls P g args wx fun e w' => e = .returned v ∧ ClB w w' := fun wx hx => (h wx hx).mono fun _ _ ⟨a, b⟩ => ⟨a, Below.next hx b⟩
theorem run_under {t : TypeId} {d : TypeDesc} (h : P.underlying t = some d) (w : World) : (underlying t).run P w = .ok d w := by
 unfold underlying
 simp [go_sem, h]
theorem run_size {t : TypeId} {i : TypeInfo} (h : P.info? t = some i) (w : World) : (sizeOf t).run P w = .ok i.size w := by
 unfold sizeOf typeInfo
 simp [go_sem, h]
theorem row_st {W : World} {b : Nat} {cs : Array Value} {t : TypeId} (h : W.heap[b]? = some (.cells cs t (0, 0))) : ∀ (l : List Value) (o : Nat), (∀ j, l[j]? = cs[o + j]?) → Sts W b o l
 | [], _, _ => trivial
 | v :: r, o, g => by
  refine ⟨?_, row_st h r (o + 1) fun j => ?_⟩
  ·have h0 := g 0
   simp only [List.getElem?_cons_zero, Nat.add_zero] at h0
   exact St.of (by simp [World.cell?, h, ← h0])
  ·have := g (j + 1)
   simp only [List.getElem?_cons_succ] at this
   rw [this]; congr 1; omega
theorem sts_row {W : World} {b : Nat} {cs : List Value} {t : TypeId} (h : W.heap[b]? = some (.cells cs.toArray t (0, 0))) : Sts W b 0 cs := row_st h cs 0 (fun j => by simp)
theorem row_next {W W' : World} {b : Nat} {x : Obj} (h : W.heap[b]? = some x) (hb : Below W.heap.size W W') : W'.heap[b]? = some x := by
 rw [hb.block b (Array.getElem?_eq_some_iff.1 h).1]; exact h
theorem l_new {Q : Exit → Act → World → Prop} {d : Nat} {t : TypeId} {cs : Array Value} (f : Fr A N L) (hd : o.dst = some d) (hN : Nat.blt d N = true) (hw : wantB l L o = some true)
    (hr : ∀ ρ : Operand → Value, (∀ x u, ev L x = some u → ρ x = u) → (execOp ρ o).run P w = .ok (.value (.pointer (some ⟨w.heap.size, 0, none⟩))) (w.alloc (.cells cs t)))
    (h : ∀ b W, w.heap.size = b → Below w.heap.size w W → W.heap[b]? = some (.cells cs t (0, 0)) → ∀ A', Fr A' N ((d, .pointer (some ⟨b, 0, none⟩)) :: L) → wpList P l.toArray Q rest A' W) : wpList P l.toArray Q (o :: rest) A w := by
 unfold wpList
 rw [if_pos (f.wanted hw)]
 left
 unfold Oper.wp
 rw [hr A.eval (fun x u hu => f.ev hu), Oper.upon_value, hd]
 exact h _ _ rfl ((Below.refl w.heap.size w).alloc (Nat.le_refl _) _) (by show (w.heap.push _)[w.heap.size]? = _; rw [Array.getElem?_push, if_pos rfl]) _ (f.put d _ (by simpa [Nat.blt_eq] using hN))
theorem l_box {Q : Exit → Act → World → Prop} {d : Nat} {t : TypeId} {x : Operand} {v : Value} (f : Fr A N L) (hd : o.dst = some d) (hN : Nat.blt d N = true) (hw : wantB l L o = some true) (ho : o.op = .box t x) (hx : ev L x = some v)
    (h : ∀ b W, w.heap.size = b → Below w.heap.size w W → W.heap[b]? = some (.cells v.cells t (0, 0)) → ∀ A', Fr A' N ((d, .pointer (some ⟨b, 0, none⟩)) :: L) → wpList P l.toArray Q rest A' W) : wpList P l.toArray Q (o :: rest) A w := by
 refine l_new f hd hN hw (fun ρ hρ => ?_) h
 simp [execOp, ho, hρ _ _ hx, Instr.box, newVar, newRow, go_sem]
theorem l_alloc {Q : Exit → Act → World → Prop} {d : Nat} {t : TypeId} {z : Value} (f : Fr A N L) (hd : o.dst = some d) (hN : Nat.blt d N = true) (hw : wantB l L o = some true) (ho : o.op = .alloc t) (hz : (P.info? t).map (·.zero) = some (some z))
    (h : ∀ b W, w.heap.size = b → Below w.heap.size w W → W.heap[b]? = some (.cells z.cells t (0, 0)) → ∀ A', Fr A' N ((d, .pointer (some ⟨b, 0, none⟩)) :: L) → wpList P l.toArray Q rest A' W) : wpList P l.toArray Q (o :: rest) A w := by
 refine l_new f hd hN hw (fun ρ hρ => ?_) h
 simp only [Option.map_eq_some_iff] at hz
 obtain ⟨inf, hi, he⟩ := hz
 have hzv : (zeroValue t).run P w = .ok z w := by
  unfold zeroValue typeInfo
  simp [go_sem, hi, he]
 simp [execOp, ho, Instr.alloc, newVar, newRow, go_sem, hzv]
theorem run_storeVar' {t : TypeId} {i : TypeInfo} {a : Addr} {v : Value} {W W' : World} (hi : P.info? t = some i) (hv : v.cells.size = i.size) (hr : (storeCells a v.cells.toList 0).run P W = .ok () W') : (storeVar t a v).run P W = .ok () W' := by
 unfold storeVar
 generalize v.cells = cs at *
 simp [run_size hi, hv, hr, go_sem]
theorem l_as {Q : Exit → Act → World → Prop} {d : Nat} {t : TypeId} {x : Operand} {v z : Value} {o' : Oper} (f : Fr A N L) (hd : o.dst = some d) (hN : Nat.blt d N = true) (hw : wantB l L o = some true) (ho : o.op = .alloc t) (hz : (P.info? t).map (fun i => (i.zero, i.size)) = some (some z, z.cells.size))
    (hd' : o'.dst = none) (ho' : o'.op = .store t (.tmp d) x)
    (hx' : ∀ u, ev ((d, u) :: L) x = some v) (hw'' : ∀ u, wantB l ((d, .pointer u) :: L) o' = some true) (hv : v.cells.size = z.cells.size) (h1 : ∀ u ∈ v.cells.toList, u.oneCell' = true)
    (h : ∀ b W, w.heap.size = b → Below w.heap.size w W → W.heap[b]? = some (.cells v.cells t (0, 0)) → ∀ A', Fr A' N ((d, .pointer (some ⟨b, 0, none⟩)) :: L) → wpList P l.toArray Q rest A' W) : wpList P l.toArray Q (o :: o' :: rest) A w := by
 have hz1 : (P.info? t).map (·.zero) = some (some z) := by
  simp only [Option.map_eq_some_iff, Prod.mk.injEq] at hz ⊢
  obtain ⟨i, hi, h1, _⟩ := hz
  exact ⟨i, hi, h1⟩
 obtain ⟨i, hi, he⟩ : ∃ i, P.info? t = some i ∧ i.size = z.cells.size := by
  simp only [Option.map_eq_some_iff, Prod.mk.injEq] at hz
  obtain ⟨i, hi, _, h2⟩ := hz
  exact ⟨i, hi, h2⟩
 refine l_alloc f hd hN hw ho hz1 ?_
 intro b W hb hB hR A' f'
 unfold wpList
 rw [if_pos (f'.wanted (hw'' _))]
 left
 have e1 : A'.eval (.tmp d) = .pointer (some ⟨b, 0, none⟩) := f'.ev (by simp [ev, look])
 have e2 : A'.eval x = v := f'.ev (hx' _)
 have hrun := run_storeCells_from (P := P) b t v.cells.toList 0 z.cells W hR (by simp; omega) h1
 unfold Oper.wp
 have hr : (execOp A'.eval o').run P W = .ok .skip (W.setRow b v.cells) := by
  have hrun' : (storeCells ⟨b, 0, none⟩ v.cells.toList 0).run P W = .ok () (W.setRow b v.cells) := by simpa using hrun
  obtain ⟨ρ, hρ⟩ : ∃ ρ, A'.eval = ρ := ⟨_, rfl⟩
  rw [hρ] at e1 e2 ⊢
  have hsv := run_storeVar' (a := ⟨b, 0, none⟩) hi (hv.trans he.symm) hrun'
  obtain ⟨s, hs⟩ : ∃ s, storeVar t ⟨b, 0, none⟩ v = s := ⟨_, rfl⟩
  rw [hs] at hsv
  unfold execOp
  rw [ho']
  simp only
  unfold Instr.storeAt
  rw [e1, e2]
  show (do storeVar t ⟨b, 0, none⟩ v; pure Next.skip : Sem Next).run P W = _
  rw [hs]
  simp [hsv, go_sem]
 rw [hr, Oper.upon_skip, hd']
 have hrow : (W.setRow b v.cells).heap[b]? = some (.cells v.cells t (0, 0)) := by
  simp [World.setRow, Array.getElem?_modify, hR]
 exact h b _ hb (below_setRow hB (by omega) _) hrow _ f'
def evp (L : List (Nat × Value)) : List (Nat × Operand) → Option (List (Nat × Value))
 | [] => some []
 | p :: r => match ev L p.2, evp L r with
  | some v, some vs => some ((p.1, v) :: vs)
  | _, _ => none
theorem evp_map {ρ : Operand → Value} (hρ : ∀ x u, ev L x = some u → ρ x = u) : ∀ {xs : List (Nat × Operand)} {vs : List (Nat × Value)}, evp L xs = some vs → xs.map (fun p => (p.1, ρ p.2)) = vs
 | [], vs, h => by cases h; rfl
 | x :: r, vs, h => by
  unfold evp at h
  cases h1 : ev L x.2 with
  | none => rw [h1] at h; cases h
  | some v =>
   cases h2 : evp L r with
   | none => rw [h1, h2] at h; cases h
   | some us =>
    rw [h1, h2] at h
    cases h
    rw [List.map_cons, hρ x.2 v h1, evp_map hρ h2]
theorem y_build {t : TypeId} {ps : List (Nat × Operand)} {vs : List (Nat × Value)} (cells : Array Value) (ho : o.op = .build t ps.toArray) (hp : evp L ps = some vs) (hb : P.built t vs = some cells) : YC P C L o (.agg cells) := by
 intro ρ hρ wx _
 have e := evp_map hρ hp
 have hr := run_build (P := P) wx t vs.toArray cells (by simpa using hb)
 obtain ⟨s, hs⟩ : ∃ s, Instr.build t vs.toArray = s := ⟨_, rfl⟩
 rw [hs] at hr
 have e' : ps.toArray.map (fun (i, x) => (i, ρ x)) = vs.toArray := by simpa using congrArg List.toArray e
 unfold execOp
 rw [ho]
 simp only
 rw [e', hs]
 simp [hr, go_sem]
theorem y_func {fn : Fn} {xs : List Operand} {vs : List Value} (ho : o.op = .makeFunc fn #[] xs.toArray) (hx : evs L xs = some vs) : YC P C L o (.func fn #[] vs.toArray) := by
 intro ρ hρ wx _
 have e := evs_map hρ hx
 simp [execOp, ho, Instr.makeFunc, e, go_sem]
theorem y_move {x : Operand} {v : Value} (ho : o.op = .move x) (hx : ev L x = some v) : YC P C L o v := by
 intro ρ hρ wx _
 simp [execOp, ho, hρ _ _ hx, go_sem]
theorem y_assign {x : Operand} {v : Value} (ho : o.op = .assign x) (hx : ev L x = some v) : YC P C L o v := by
 intro ρ hρ wx _
 simp [execOp, ho, hρ _ _ hx, go_sem]
theorem y_pick {c a b : Operand} {t : Bool} {v : Value} (ho : o.op = .pick c a b) (hc : ev L c = some (.bool t)) (hv : (bif t then ev L a else ev L b) = some v) : YC P C L o v := by
 intro ρ hρ wx _
 cases t
 ·simp [execOp, ho, hρ _ _ hc, hρ _ _ hv, asBool, go_sem]
 ·simp [execOp, ho, hρ _ _ hc, hρ _ _ hv, asBool, go_sem]
theorem y_not {x : Operand} {t : TypeId} {b : Bool} (ho : o.op = .unOp .not t x) (hx : ev L x = some (.bool b)) : YC P C L o (.bool (!b)) := by
 intro ρ hρ wx _
 simp [execOp, ho, hρ _ _ hx, Op.unary, go_sem]
def isSl (P : Program) (t : TypeId) : Bool :=
 match P.underlying t with
 | some (.slice _) => true
 | _ => false
theorem y_len {x : Operand} {p : Option Addr} {n c : Nat} {t : TypeId} (ho : o.op = .call ⟨.builtin .len, #[x], #[t]⟩) (hx : ev L x = some (.slice p n c)) (ht : isSl P t = true) : YC P C L o (.int .i64 n) := by
 intro ρ hρ wx _
 unfold isSl at ht
 cases hu : P.underlying t with
 | none => rw [hu] at ht; cases ht
 | some d =>
  rw [hu] at ht
  cases d with
  | slice e => simp [execOp, ho, hρ _ _ hx, resolve, Builtin.len_, run_under hu, goInt, go_sem]
  | _ => cases ht
def fOff (P : Program) (s : TypeId) (i : Nat) : Option Nat :=
 match P.underlying s with
 | some (.struct fields) => match fields[i]? with
  | some fd => match P.info? fd.type with
   | some inf => if inf.size = 0 then none else some fd.offset
   | none => none
  | none => none
 | _ => none
theorem y_field {s : TypeId} {x : Operand} {i k b off : Nat} (ho : o.op = .fieldAddr s x i) (hx : ev L x = some (.pointer (some ⟨b, off, none⟩))) (hk : fOff P s i = some k) : YC P C L o (.pointer (some ⟨b, off + k, none⟩)) := by
 intro ρ hρ wx _
 unfold fOff at hk
 cases hu : P.underlying s with
 | none => rw [hu] at hk; cases hk
 | some d =>
  rw [hu] at hk
  cases d with
  | struct fields =>
   simp only at hk
   cases hf : fields[i]? with
   | none => rw [hf] at hk; cases hk
   | some fd =>
    rw [hf] at hk
    simp only at hk
    cases hi : P.info? fd.type with
    | none => rw [hi] at hk; cases hk
    | some inf =>
     rw [hi] at hk
     simp only at hk
     by_cases hz : inf.size = 0
     ·rw [if_pos hz] at hk; cases hk
     ·rw [if_neg hz] at hk
      cases hk
      simp [execOp, ho, hρ _ _ hx, Instr.fieldAt, Instr.sureAddr, fieldPlace, run_under hu, hf, run_size hi, hz, go_sem]
  | _ => cases hk
def elSz (P : Program) (t : TypeId) : Option Nat :=
 match P.underlying t with
 | some (.slice e) => (P.info? e).map (·.size)
 | _ => none
theorem y_index {t : TypeId} {x ix : Operand} {k s b off n c : Nat} {p : Option Addr} (ho : o.op = .indexAddr t x ix) (hx : ev L x = some (.slice p n c)) (hp : p = some ⟨b, off, none⟩) (hi : ev L ix = some (.int .i64 k)) (hs : elSz P t = some s) (hk : k < n) : YC P C L o (.pointer (some ⟨b, off + k * s, none⟩)) := by
 subst hp
 intro ρ hρ wx _
 unfold elSz at hs
 cases hu : P.underlying t with
 | none => rw [hu] at hs; cases hs
 | some d =>
  rw [hu] at hs
  cases d with
  | slice e =>
   simp only at hs
   cases hif : P.info? e with
   | none => rw [hif] at hs; cases hs
   | some inf =>
    rw [hif] at hs
    simp only [Option.map_some, Option.some.injEq] at hs
    subst hs
    simp [execOp, ho, hρ _ _ hx, hρ _ _ hi, Instr.indexAt, asIntOf, run_under hu, run_size hif, hk, go_sem]
  | _ => cases hs
theorem y_indexI {t : TypeId} {x ix : Operand} {j : Int} {s b off n c : Nat} {p : Option Addr} (ho : o.op = .indexAddr t x ix) (hx : ev L x = some (.slice p n c)) (hp : p = some ⟨b, off, none⟩) (hi : ev L ix = some (.int .i64 j)) (hs : elSz P t = some s) (h0 : 0 ≤ j) (hk : j < n) : YC P C L o (.pointer (some ⟨b, off + j.toNat * s, none⟩)) :=
 y_index (k := j.toNat) ho hx hp (by rw [hi]; congr 2; omega) hs (by omega)
def isAggB (P : Program) (t : TypeId) : Option (Option Nat) :=
 match P.underlying t with
 | some (.struct _) | some (.array _ _) => (P.info? t).map (fun i => some i.size)
 | some _ => some none
 | none => none
theorem y_load1 {t : TypeId} {x : Operand} {p : Addr} {v : Value} (ho : o.op = .load t x) (hx : ev L x = some (.pointer (some p))) (ht : isAggB P t = some none) (hc : StC C p v) : YC P C L o v := by
 intro ρ hρ wx hb
 have hcx := hc wx hb
 unfold isAggB at ht
 cases hu : P.underlying t with
 | none => rw [hu] at ht; cases ht
 | some d =>
  rw [hu] at ht
  cases d <;> first
   | (simp [execOp, ho, hρ _ _ hx, Instr.loadAt, Instr.sureAddr, loadVar, isAgg, run_under hu, hcx, go_sem]; done)
   | (simp at ht; done)
   | (cases h : P.info? t <;> simp [h] at ht)
theorem y_loadN {t : TypeId} {x : Operand} {b off n : Nat} {vs : List Value} (ho : o.op = .load t x) (hx : ev L x = some (.pointer (some ⟨b, off, none⟩))) (ht : isAggB P t = some (some n)) (hn : vs.length = n) (hc : StsC C b off vs) : YC P C L o (.agg vs.toArray) := by
 intro ρ hρ wx hb
 have hcx := run_loadCells_list (P := P) (w := wx) ⟨b, off, none⟩ vs (hc.at hb)
 rw [hn] at hcx
 unfold loadCells at hcx
 unfold isAggB at ht
 cases hu : P.underlying t with
 | none => rw [hu] at ht; cases ht
 | some d =>
  rw [hu] at ht
  cases d with
  | struct fs =>
   simp only [Option.map_eq_some_iff, Option.some.injEq] at ht
   obtain ⟨inf, hi, e⟩ := ht
   subst e
   simp [execOp, ho, hρ _ _ hx, Instr.loadAt, Instr.sureAddr, loadVar, isAgg, run_under hu, run_size hi, hcx, go_sem]
  | array m e =>
   simp only [Option.map_eq_some_iff, Option.some.injEq] at ht
   obtain ⟨inf, hi, e⟩ := ht
   subst e
   simp [execOp, ho, hρ _ _ hx, Instr.loadAt, Instr.sureAddr, loadVar, isAgg, run_under hu, run_size hi, hcx, go_sem]
  | _ => simp at ht
section ints
variable {t u : TypeId} {x y : Operand} {k : IntKind} {a b : Int}
theorem y_lss (ho : o.op = .binOp .lss t x y u) (hx : ev L x = some (.int k a)) (hy : ev L y = some (.int k b)) : YC P C L o (.bool (decide (a < b))) := by
 intro ρ hρ wx _
 simp [execOp, ho, hρ _ _ hx, hρ _ _ hy, eqGuard, binOp, Op.intCmp, go_sem]
theorem y_leq (ho : o.op = .binOp .leq t x y u) (hx : ev L x = some (.int k a)) (hy : ev L y = some (.int k b)) : YC P C L o (.bool (decide (a ≤ b))) := by
 intro ρ hρ wx _
 simp [execOp, ho, hρ _ _ hx, hρ _ _ hy, eqGuard, binOp, Op.intCmp, go_sem]
theorem y_gtr (ho : o.op = .binOp .gtr t x y u) (hx : ev L x = some (.int k a)) (hy : ev L y = some (.int k b)) : YC P C L o (.bool (decide (b < a))) := by
 intro ρ hρ wx _
 simp [execOp, ho, hρ _ _ hx, hρ _ _ hy, eqGuard, binOp, Op.intCmp, go_sem]
theorem y_geq (ho : o.op = .binOp .geq t x y u) (hx : ev L x = some (.int k a)) (hy : ev L y = some (.int k b)) : YC P C L o (.bool (decide (b ≤ a))) := by
 intro ρ hρ wx _
 simp [execOp, ho, hρ _ _ hx, hρ _ _ hy, eqGuard, binOp, Op.intCmp, go_sem]
theorem y_eql (ho : o.op = .binOp .eql t x y u) (hx : ev L x = some (.int k a)) (hy : ev L y = some (.int k b)) : YC P C L o (.bool (decide (a = b))) := by
 intro ρ hρ wx _
 have e : (a == b) = decide (a = b) := by cases h : a == b <;> simp_all
 simp [execOp, ho, hρ _ _ hx, hρ _ _ hy, eqGuard, binOp, Op.intCmp, go_sem, e]
theorem y_neq (ho : o.op = .binOp .neq t x y u) (hx : ev L x = some (.int k a)) (hy : ev L y = some (.int k b)) : YC P C L o (.bool (decide (a ≠ b))) := by
 intro ρ hρ wx _
 have e : (a != b) = decide (a ≠ b) := by cases h : a != b <;> simp_all
 simp [execOp, ho, hρ _ _ hx, hρ _ _ hy, eqGuard, binOp, Op.intCmp, go_sem, e]
theorem y_add {c : Int} (ho : o.op = .binOp .add t x y u) (hx : ev L x = some (.int .i64 a)) (hy : ev L y = some (.int .i64 b)) (hc : a + b = c) (h : -9223372036854775808 ≤ c ∧ c ≤ 9223372036854775807) : YC P C L o (.int .i64 c) := by
 intro ρ hρ wx _
 have e := IntWalk.i64_in (a + b) (by omega)
 simp [execOp, ho, hρ _ _ hx, hρ _ _ hy, binOp, Op.intArith, go_sem, e]
 exact hc
theorem y_sub {c : Int} (ho : o.op = .binOp .sub t x y u) (hx : ev L x = some (.int .i64 a)) (hy : ev L y = some (.int .i64 b)) (hc : a - b = c) (h : -9223372036854775808 ≤ c ∧ c ≤ 9223372036854775807) : YC P C L o (.int .i64 c) := by
 intro ρ hρ wx _
 have e := IntWalk.i64_in (a - b) (by omega)
 simp [execOp, ho, hρ _ _ hx, hρ _ _ hy, binOp, Op.intArith, go_sem, e]
 exact hc
theorem y_mul {c : Int} (ho : o.op = .binOp .mul t x y u) (hx : ev L x = some (.int .i64 a)) (hy : ev L y = some (.int .i64 b)) (hc : a * b = c) (h : -9223372036854775808 ≤ c ∧ c ≤ 9223372036854775807) : YC P C L o (.int .i64 c) := by
 intro ρ hρ wx _
 have e := IntWalk.i64_in (a * b) (by omega)
 simp [execOp, ho, hρ _ _ hx, hρ _ _ hy, binOp, Op.intArith, go_sem, e]
 exact hc
theorem y_rem {c : Int} (ho : o.op = .binOp .rem t x y u) (hx : ev L x = some (.int .i64 a)) (hy : ev L y = some (.int .i64 b)) (h : b ≠ 0) (hc : a.tmod b = c) : YC P C L o (.int .i64 c) := by
 intro ρ hρ wx _
 simp [execOp, ho, hρ _ _ hx, hρ _ _ hy, binOp, Op.intDiv, go_sem, h]
 exact hc
theorem y_quo {c : Int} (ho : o.op = .binOp .quo t x y u) (hx : ev L x = some (.int .i64 a)) (hy : ev L y = some (.int .i64 b)) (h : b ≠ 0) (hc : a.tdiv b = c) (hr : -9223372036854775808 ≤ c ∧ c ≤ 9223372036854775807) : YC P C L o (.int .i64 c) := by
 intro ρ hρ wx _
 have e := IntWalk.i64_in (a.tdiv b) (by omega)
 simp [execOp, ho, hρ _ _ hx, hρ _ _ hy, binOp, Op.intDiv, go_sem, h, e]
 exact hc
end ints
def lookN : List (Nat × Nat) → Nat → Option Nat
 | [], _ => none
 | p :: r, i => bif Nat.beq p.1 i then some p.2 else lookN r i
theorem lookN_mem : ∀ {T : List (Nat × Nat)} {i k : Nat}, lookN T i = some k → (i, k) ∈ T
 | [], _, _, h => by cases h
 | p :: r, i, k, h => by
  unfold lookN at h
  cases hb : Nat.beq p.1 i with
  | true =>
   rw [hb] at h
   have e := Nat.eq_of_beq_eq_true hb
   cases h
   subst e
   exact List.mem_cons_self
  | false =>
   rw [hb] at h
   exact List.mem_cons_of_mem _ (lookN_mem h)
def memN : List Nat → Nat → Bool
 | [], _ => false
 | p :: r, i => bif Nat.beq p i then true else memN r i
theorem memN_mem : ∀ {T : List Nat} {i : Nat}, memN T i = true → i ∈ T
 | [], _, h => by cases h
 | p :: r, i, h => by
  unfold memN at h
  cases hb : Nat.beq p i with
  | true =>
   have e := Nat.eq_of_beq_eq_true hb
   subst e
   exact List.mem_cons_self
  | false =>
   rw [hb] at h
   exact List.mem_cons_of_mem _ (memN_mem h)
def plainB (P : Program) (g : Nat) : Bool :=
 match P.funcs[g]? with
 | some fn => !(fn.name == "runtime.NumGoroutine") && fn.body.isSome
 | none => false
theorem Plain.of {g : Nat} (h : plainB P g = true) : Plain P g := by
 intro args W
 unfold plainB at h
 cases hf : P.funcs[g]? with
 | none => rw [hf] at h; cases h
 | some fn =>
  rw [hf] at h
  simp only [Bool.and_eq_true, Bool.not_eq_true'] at h
  obtain ⟨h1, h2⟩ := h
  obtain ⟨c, hc⟩ : ∃ c, fn.body = some c := Option.isSome_iff_exists.1 h2
  have h1' : ¬ fn.name = "runtime.NumGoroutine" := by simpa using h1
  unfold callFunc
  simp [go_sem, hf, h1', hc]
theorem x_loop {c : Code} {Q : Exit → Act → World → Prop} (I : Nat → Act → World → Prop) {n0 : Nat} (h0 : I n0 A w)
    (round : ∀ n A w, I n A w → c.wp P (Exit.then (fun a' w' => ∃ m, m < n ∧ I m a' w') Q) A w) : (Code.loop c).wp P Q A w := by
 intro b k cs
 have key : ∀ n A w, I n A w →
     ∃ e a' w', Q e a' w' ∧ Arrives P (lone (b.at A (.code c :: .inLoop c :: k)) cs w) b k cs e a' w' := by
  intro n
  induction n using Nat.strongRecOn with
  | _ n ih =>
   intro A w hI
   obtain ⟨e, a1, w1, hq, harr⟩ := round n A w hI b (.inLoop c :: k) cs
   cases e with
   | normal =>
    obtain ⟨m, hlt, hI1⟩ := hq
    obtain ⟨e2, a2, w2, hq2, harr2⟩ := ih m hlt a1 w1 hI1
    exact ⟨e2, a2, w2, hq2, .of_steps (Steps.trans harr (.one step_inLoop)) harr2⟩
   | exit id => exact ⟨_, a1, w1, hq, .pass (x := .inLoop c) rfl (fun _ _ => .inl (by simp)) harr⟩
   | goto l => exact ⟨_, a1, w1, hq, .pass (x := .inLoop c) rfl (fun _ _ => .inl (by simp)) harr⟩
   | ret => exact ⟨_, a1, w1, hq, .pass (x := .inLoop c) rfl (fun _ _ => .inl (by simp)) harr⟩
   | panic ch => exact ⟨_, a1, w1, hq, .pass (x := .inLoop c) rfl (fun _ _ => .inl (by simp)) harr⟩
   | outgrown => exact ⟨_, a1, w1, hq, .pass (x := .inLoop c) rfl (fun _ _ => .inl (by simp)) harr⟩
 obtain ⟨e, a', w', hq, harr⟩ := key _ A w h0
 exact ⟨e, a', w', hq, .of_steps (.one step_loop) harr⟩
section exits
variable {Q : Exit → Act → World → Prop} {K : Act → World → Prop} {i j : Nat}
theorem x_tn (h : K A w) : Exit.then K Q .normal A w := h
theorem x_te (h : Q (.exit i) A w) : Exit.then K Q (.exit i) A w := h
theorem x_tr (h : Q .ret A w) : Exit.then K Q .ret A w := h
theorem x_bn (h : Q .normal A w) : Exit.inBlock i Q .normal A w := h
theorem x_bh (h : Q .normal A w) : Exit.inBlock i Q (.exit i) A w := by simpa [Exit.inBlock] using h
theorem x_be (e : Nat.beq j i = false) (h : Q (.exit j) A w) : Exit.inBlock i Q (.exit j) A w := by
 have : j ≠ i := fun g => by subst g; rw [Nat.beq_refl] at e; cases e
 simpa [Exit.inBlock, this] using h
theorem x_br (h : Q .ret A w) : Exit.inBlock i Q .ret A w := h
theorem x_cond {c : Operand} {x y : Code} {b : Bool} (f : Fr A N L) (hc : ev L c = some (.bool b)) (h : (bif b then x else y).wp P Q A w) : (Code.cond c x y).wp P Q A w := by
 refine wp_cond (f.ev hc) ?_
 cases b <;> exact h
theorem x_condT {c : Operand} {x y : Code} (f : Fr A N L) (hc : ev L c = some (.bool true)) (h : x.wp P Q A w) : (Code.cond c x y).wp P Q A w := wp_cond_true (f.ev hc) h
theorem x_condF {c : Operand} {x y : Code} (f : Fr A N L) (hc : ev L c = some (.bool false)) (h : y.wp P Q A w) : (Code.cond c x y).wp P Q A w := wp_cond_false (f.ev hc) h
theorem x_ret1 {fn : Func} {R : Ending → World → Prop} {t : Tmp} {v : Value} (f : Fr A N L) (hr : fn.results = #[.tmp t]) (hv : look L t = some v) (h : R (.returned v) w) : bodyPost P fn R .ret A w := by
 refine ⟨f.defs, v, ?_, h⟩
 rw [results_tmp hr, f.at_ t v hv]
theorem x_ret2 {fn : Func} {R : Ending → World → Prop} {t u : Tmp} {v v' : Value} (f : Fr A N L) (hr : fn.results = #[.tmp t, .tmp u]) (hv : look L t = some v) (hv' : look L u = some v') (h : R (.returned (.tuple #[v, v'])) w) : bodyPost P fn R .ret A w := by
 refine ⟨f.defs, _, ?_, h⟩
 rw [results_tmp2 hr, f.at_ t v hv, f.at_ u v' hv']
end exits
end
end Go.Proofs.Ytnijjpakpphhhaa.Kit
