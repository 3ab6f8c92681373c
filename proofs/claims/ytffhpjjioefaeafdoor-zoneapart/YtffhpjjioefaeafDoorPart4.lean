/-
  OWN TEXTS, bundled: ZcBounds, Sized, ZArgs, ZcCheck.
-/
import Derived.Test.YtffhpjjioefaeafDoorPart2
import Derived.Test.YtffhpjjioefaeafDoorPart1
import Derived.Lib.SmallJoins
import Derived.Deep.SlicePairs
import Derived.Test.YtffhpjjioefaeafDoorPart3
import Derived.Deep.RegionHeld3
import Derived.Deep.RegionWith

/-
  OWN TEXT. Contract of the code: buddy.areBounds.
-/
namespace Go.Proofs.YtffhpjjioefaeafDoor
open Go Go.RowKit Go.Proofs.YtffhpjjioefaeafDoor.Kit

/-- P3.1, decided. -/
def newB (f t : Int) : Bool := decide (0 ≤ f ∧ f ≤ t ∧ t ≤ 256 ∧ f % 16 = 0 ∧ t % 16 = 0)
theorem newB_iff (f t : Int) : newB f t = true ↔ newOk f t := by unfold newB newOk; simp
theorem newB_t {f t : Int} (h : newOk f t) : newB f t = true := (newB_iff f t).2 h
theorem newB_f {f t : Int} (h : ¬ newOk f t) : newB f t = false := by
  cases g : newB f t with
  | false => rfl
  | true => exact absurd ((newB_iff f t).1 g) h

set_option maxHeartbeats 1000000 in
theorem bounds_any (w : World) (f t : Int) :
    Calls Tryd.prog 38 #[.int .i64 f, .int .i64 t] w fun e w' => e = .returned (.bool (newB f t)) ∧ w = w' := by
  by_cases h1 : 0 ≤ f
  · by_cases h2 : f ≤ t
    · by_cases h3 : t ≤ 256
      · obtain ⟨F, rfl⟩ : ∃ F : Nat, f = F := ⟨f.toNat, by omega⟩
        obtain ⟨T, rfl⟩ : ∃ T : Nat, t = T := ⟨t.toNat, by omega⟩
        by_cases h4 : (F : Int) % 16 = 0
        · by_cases h5 : (T : Int) % 16 = 0
          · have HR : Hid (newB F T = true) := newB_t ⟨h1, h2, h3, h4, h5⟩
            go_enter Tryd.func38, Tryd.ntmps38
            go_wp2
            go_ret
            exact ⟨ret_bool HR.out.symm, rfl⟩
          · have HR : Hid (newB F T = false) := newB_f fun g => h5 g.2.2.2.2
            have h5' : ((T : Int) % 16 == 0) = false := by simpa using h5
            clear h5
            go_enter Tryd.func38, Tryd.ntmps38
            go_wp2
            go_ret
            exact ⟨ret_bool HR.out.symm, rfl⟩
        · have HR : Hid (newB F T = false) := newB_f fun g => h4 g.2.2.2.1
          have h4' : ((F : Int) % 16 == 0) = false := by simpa using h4
          clear h4
          go_enter Tryd.func38, Tryd.ntmps38
          go_wp2
          go_ret
          exact ⟨ret_bool HR.out.symm, rfl⟩
      · have HR : Hid (newB f t = false) := newB_f fun g => h3 g.2.2.1
        go_enter Tryd.func38, Tryd.ntmps38
        go_wp2
        go_ret
        exact ⟨ret_bool HR.out.symm, rfl⟩
    · have HR : Hid (newB f t = false) := newB_f fun g => h2 g.2.1
      go_enter Tryd.func38, Tryd.ntmps38
      go_wp2
      go_ret
      exact ⟨ret_bool HR.out.symm, rfl⟩
  · have HR : Hid (newB f t = false) := newB_f fun g => h1 g.1
    go_enter Tryd.func38, Tryd.ntmps38
    go_wp2
    go_ret
    exact ⟨ret_bool HR.out.symm, rfl⟩

end Go.Proofs.YtffhpjjioefaeafDoor

/-
  OWN TEXT. The form's own reach, part by part, over whatever program.
-/
namespace Go.Proofs.YtffhpjjioefaeafDoor.Kit
open Go Go.RowKit

/-- Each string, slice and map of a datum is within the reach. -/
def Sized {H : Type} (P : Program) (t : TypeId) (d : DataW H) : Prop := ∀ n ∈ d.weights P t, n ≤ reachBytes

theorem sized_arg {H : Type} {P : Program} {ts : List TypeId} {ds : List (DataW H)} (h : (DataW.weightsEach P ts ds).all (· ≤ reachBytes) = true) {j : Nat} {t : TypeId} {d : DataW H} (ht : ts[j]? = some t) (hd : ds[j]? = some d) : Sized P t d := by
  intro n hn
  have := List.all_eq_true.1 h _ (DataW.weights_mem_each ht hd n hn)
  simpa using this

theorem sized_field {H : Type} {P : Program} {t u : TypeId} {fs : Array Field} {parts : List (DataW H)} {d : DataW H} (h : Sized P t (.agg parts)) (ht : P.underlying t = some (.struct fs)) {i : Nat} (hu : (fs.toList.map (·.type))[i]? = some u) (hd : parts[i]? = some d) : Sized P u d := by
  intro n hn
  apply h
  have := DataW.weights_mem_each hu hd n hn
  simpa [DataW.weights, ht] using this

theorem sized_sl {H : Type} {P : Program} {t e : TypeId} {elems spare : List (DataW H)} (h : Sized P t (.slice elems spare)) (ht : P.underlying t = some (.slice e)) : (elems.length + spare.length) * P.bytesOf e ≤ reachBytes :=
  h _ (by simp [DataW.weights, ht])

end Go.Proofs.YtffhpjjioefaeafDoor.Kit

/-
  OWN TEXT. How an argument that is a zone (api.Zone) is opened for the walk, over whatever program.
-/
namespace Go.Proofs.YtffhpjjioefaeafDoor.Kit
open Go Go.RowKit Go.ChangeShapes Go.WideShapes Go.ChangeAt Go.Joins Go.Deep

/-- The numbers are words. -/
structure Bk.Fits (b : Bk) : Prop where
  a : (Lit.int .i64 b.a).wf = true
  o : (Lit.int .i64 b.o).wf = true
  t : (Lit.int .i64 b.t).wf = true

/-- What the walk is told of a slice of blocks that came in. -/
structure IsBlks (w : World) (ao : Option Addr) (n cap : Nat) (l : List Bk) : Prop where
  len : l.length = n
  le : n ≤ cap
  reach : cap * 24 ≤ 140737488351232
  at_ : BlksAt w ao l
  wf : ∀ i, i < n → (l.getD i .zero).Fits

/-- What the walk is told of a zone that came in. -/
structure IsZone (w : World) (fo : Option Addr) (fn fc : Nat) (to_ : Option Addr) (tn tc : Nat) (z : Zn) : Prop where
  fr : IsBlks w fo fn fc z.free
  ty : IsInts w to_ tn tc z.types
  wf : (Lit.int .i64 z.f).wf = true
  wt : (Lit.int .i64 z.t).wf = true

theorem IsZone.zn {w : World} {fo : Option Addr} {fn fc : Nat} {to_ : Option Addr} {tn tc : Nat} {z : Zn} (h : IsZone w fo fn fc to_ tn tc z) : ZnAt w fo fn to_ tn z :=
  ⟨⟨h.fr.len, by have := h.fr.reach; have := h.fr.le; omega, h.fr.at_⟩, ⟨h.ty.len, by have := h.ty.reach; have := h.ty.le; omega, h.ty.at_⟩⟩

theorem open_blks {H : Type} {enc : TypeId × Value → H} {P : Program} {W : World} {t e : TypeId} {f0 f1 f2 : Field} {fuel : Nat} {v : Value} {y : DataW H × List MemPlace}
    (ht : P.underlying t = some (.slice e)) (he : P.underlying e = some (.struct #[f0, f1, f2])) (ce : P.cellsOf e = 3) (be : P.bytesOf e = 24)
    (hone : oneCellFields P #[f0, f1, f2] = true) (u0 : P.underlying f0.type = some (.int .i64)) (u1 : P.underlying f1.type = some (.int .i64)) (u2 : P.underlying f2.type = some (.int .i64))
    (hf : DataW.trod enc P W 0 (fun _ => true) true fuel t [v] = some y) (hs : Sized P t y.1) :
    ∃ ao n cap l, v = .slice ao n cap ∧ IsBlks W ao n cap l := by
  rcases open_slice ht hf with ⟨hcs, _⟩ | ⟨a, n, m0, m, fu, D, Pl, hcs, _, hl, hm, hmm, hx, hc⟩
  · simp only [List.cons.injEq, and_true] at hcs
    subst hcs
    exact ⟨none, 0, 0, [], rfl, ⟨rfl, by omega, by omega, BlksAt.nil _ _, fun i hi => by omega⟩⟩
  · simp only [List.cons.injEq, and_true] at hcs
    subst hcs
    simp only [if_true] at hmm
    subst hmm
    have hr := hx ▸ hs
    have hr2 := sized_sl hr ht
    rw [be] at hr2
    simp only [List.length_map, List.length_range, reachBytes] at hr2
    rw [ce] at hc
    obtain ⟨o0, k0⟩ := hone_of hone 0 f0 rfl
    obtain ⟨o1, k1⟩ := hone_of hone 1 f1 rfl
    obtain ⟨o2, k2⟩ := hone_of hone 2 f2 rfl
    have each : ∀ i, i < m → ∃ r : Bk, r.Fits ∧ W.cell? (a.add (i * 3)) = some (.int .i64 r.a) ∧ W.cell? (a.add (i * 3 + 1)) = some (.int .i64 r.o) ∧ W.cell? (a.add (i * 3 + 2)) = some (.int .i64 r.t) := by
      intro i hi
      obtain ⟨cs', h1, h2⟩ := hc i hi
      obtain ⟨_, hlen, hcell⟩ := World.cells?_some h1
      obtain ⟨y0, y1, y2, q, _, _, g0, g1, g2⟩ := trod_struct3 he h2
      match cs', hlen with
      | [v0, v1, v2], _ =>
        simp [o0, k0] at g0
        simp [o1, k1] at g1
        simp [o2, k2] at g2
        obtain ⟨x0, e0, _, w0⟩ := DataW.trod_int u0 g0
        obtain ⟨x1, e1, _, w1⟩ := DataW.trod_int u1 g1
        obtain ⟨x2, e2, _, w2⟩ := DataW.trod_int u2 g2
        simp only [List.cons.injEq, and_true] at e0 e1 e2
        subst e0 e1 e2
        have c0 := hcell 0 (by omega)
        have c1 := hcell 1 (by omega)
        have c2 := hcell 2 (by omega)
        rw [add_add] at c0 c1 c2
        exact ⟨⟨x0, x1, x2⟩, ⟨w0, w1, w2⟩, by simpa using c0, by simpa using c1, by simpa using c2⟩
    have inh : Inhabited Bk := ⟨Bk.zero⟩
    obtain ⟨g, hg⟩ := choose_lt each
    have hget : ∀ i, i < n → ((List.range n).map g).getD i .zero = g i := by
      intro i hi
      simp [List.getD_eq_getElem?_getD, hi]
    refine ⟨some a, n, m, (List.range n).map g, rfl, ⟨by simp, hl, by omega, ?_, fun i hi => by rw [hget i hi]; exact (hg i (by omega)).1⟩⟩
    intro i hi
    have hi' : i < n := by simpa using hi
    obtain ⟨_, d0, d1, d2⟩ := hg i (by omega)
    obtain ⟨b, off, spot⟩ := a
    have hspot : spot = none := by
      have := World.cell?_spot (hg 0 (by omega)).2.1
      simpa [Addr.add] using this
    subst hspot
    have hadd : ∀ j, (⟨b, off, none⟩ : Addr).add j = ⟨b, off + j, none⟩ := fun j => by unfold Addr.add; split <;> simp_all
    rw [hadd] at d0 d1 d2
    rw [hget i hi']
    exact ⟨b, off, rfl, d0, by rw [Nat.add_assoc]; exact d1, by rw [Nat.add_assoc]; exact d2⟩

theorem open_ints_in {H : Type} {enc : TypeId × Value → H} {P : Program} {W : World} {t e : TypeId} {fuel : Nat} {v : Value} {y : DataW H × List MemPlace}
    (ht : P.underlying t = some (.slice e)) (he : P.underlying e = some (.int .i64)) (hc : P.cellsOf e = 1) (be : P.bytesOf e = 8)
    (hf : DataW.trod enc P W 0 (fun _ => true) true fuel t [v] = some y) (hs : Sized P t y.1) :
    ∃ ao n cap xs, v = .slice ao n cap ∧ IsInts W ao n cap xs := by
  rcases open_ints ht he hc hf with ⟨hcs, _⟩ | ⟨x, n, cap, zs, hcs, _, hl, hm, hz, hx, hcell, _⟩
  · simp only [List.cons.injEq, and_true] at hcs
    subst hcs
    exact ⟨none, 0, 0, [], rfl, ⟨rfl, by omega, by omega, fun _ => ⟨rfl, rfl⟩, IntsAt.nil _ _⟩⟩
  · simp only [List.cons.injEq, and_true] at hcs
    subst hcs
    simp only [if_true] at hz
    have hr := hx ▸ hs
    have hr2 := sized_sl hr ht
    rw [be] at hr2
    simp only [lits, List.length_map, List.length_take, List.length_drop, reachBytes] at hr2
    have hr' : cap * 8 ≤ 140737488351232 := by omega
    refine ⟨some x, n, cap, zs.take n, rfl, ⟨by simp; omega, hl, hr', fun h => (by cases h), ?_⟩⟩
    intro i hi
    have hi' : i < n := by simp at hi; omega
    have hci := hcell i (by omega)
    obtain ⟨b, off, spot⟩ := x
    have hspot : spot = none := by
      by_cases h0 : i = 0
      · subst h0; simpa [Addr.add] using World.cell?_spot hci
      · have := World.cell?_spot (hcell 0 (by omega)); simpa [Addr.add] using this
    subst hspot
    refine ⟨b, off, rfl, ?_⟩
    have hadd : (⟨b, off, none⟩ : Addr).add i = ⟨b, off + i, none⟩ := by unfold Addr.add; split <;> simp_all
    rw [hadd] at hci
    rw [hci]
    simp [List.getD_eq_getElem?_getD, hi']

theorem open_zone_arg {H : Type} {enc : TypeId × Value → H} {P : Program} {W : World} {base : Nat} {zt t e u i : TypeId} {g0 g1 g2 g3 f0 f1 f2 : Field} {v : Value} {d : DataW H} {p : List MemPlace}
    (hb : P.underlying zt = some (.struct #[g0, g1, g2, g3])) (hone : oneCellFields P #[g0, g1, g2, g3] = true) (cb : P.cellsOf zt = 4) (t2 : g2.type = t) (t3 : g3.type = u)
    (ht : P.underlying t = some (.slice e)) (he : P.underlying e = some (.struct #[f0, f1, f2])) (ce : P.cellsOf e = 3) (be : P.bytesOf e = 24) (hone2 : oneCellFields P #[f0, f1, f2] = true)
    (u0 : P.underlying f0.type = some (.int .i64)) (u1 : P.underlying f1.type = some (.int .i64)) (u2 : P.underlying f2.type = some (.int .i64))
    (hu : P.underlying u = some (.slice i)) (hi : P.underlying i = some (.int .i64)) (ci : P.cellsOf i = 1) (bi : P.bytesOf i = 8)
    (w0 : P.underlying g0.type = some (.int .i64)) (w1 : P.underlying g1.type = some (.int .i64))
    (hv : Value.okWide P W .any base zt v) (h : DataW.Trod enc P W 0 (fun _ => true) true zt v d p) (hs : Sized P zt d) :
    ∃ f t fo fn fc to_ tn tc fr ty, v = .agg #[.int .i64 f, .int .i64 t, .slice fo fn fc, .slice to_ tn tc] ∧ IsZone W fo fn fc to_ tn tc ⟨f, t, fr, ty⟩ := by
  obtain ⟨v0, v1, v2, v3, y0, y1, y2, y3, m, rfl, rfl, _, h0, h1, h2, h3⟩ := open_agg4 hb hone cb hv h
  have s2 : Sized P t y2.1 := sized_field hs hb (i := 2) (by simp [t2]) rfl
  have s3 : Sized P u y3.1 := sized_field hs hb (i := 3) (by simp [t3]) rfl
  rw [t2] at h2
  rw [t3] at h3
  obtain ⟨x, e0, _, f0w⟩ := DataW.trod_int w0 h0
  obtain ⟨z, e1, _, f1w⟩ := DataW.trod_int w1 h1
  simp only [List.cons.injEq, and_true] at e0 e1
  subst e0 e1
  obtain ⟨fo, fn, fc, fr, rfl, hF⟩ := open_blks ht he ce be hone2 u0 u1 u2 h2 s2
  obtain ⟨to_, tn, tc, ty, rfl, hT⟩ := open_ints_in hu hi ci bi h3 s3
  exact ⟨x, z, fo, fn, fc, to_, tn, tc, fr, ty, rfl, ⟨hF, hT, f0w, f1w⟩⟩

/-- The numbers of a zone are words. -/
structure ZFits (z : Zn) : Prop where
  f : (Lit.int .i64 z.f).wf = true
  t : (Lit.int .i64 z.t).wf = true
  fr : ∀ i, i < z.free.length → (z.free.getD i .zero).Fits

theorem IsZone.fits {w : World} {fo : Option Addr} {fn fc : Nat} {to_ : Option Addr} {tn tc : Nat} {z : Zn} (h : IsZone w fo fn fc to_ tn tc z) : ZFits z := ⟨h.wf, h.wt, fun i hi => h.fr.wf i (by have := h.fr.len; omega)⟩

end Go.Proofs.YtffhpjjioefaeafDoor.Kit

/-
  OWN TEXT. Contracts of the code: buddy.typesMayBe, buddy.freeMayBe, buddy.Check.
-/
namespace Go.Proofs.YtffhpjjioefaeafDoor
open Go Go.RowKit Go.Proofs.YtffhpjjioefaeafDoor.Kit

/-- What a function knows of the zone that it was handed: its box, its lists. -/
structure CkInv (w : World) (fo : Option Addr) (fn fc : Nat) (to_ : Option Addr) (tn tc : Nat) (z : Zn) (W : World) : Prop where
  b : Below w.heap.size w W
  box : ZBox W w.heap.size (.int .i64 z.f) (.int .i64 z.t) (.slice fo fn fc) (.slice to_ tn tc)
  zn : ZnAt W fo fn to_ tn z

theorem CkInv.step {w : World} {fo : Option Addr} {fn fc : Nat} {to_ : Option Addr} {tn tc : Nat} {z : Zn} {W W' : World} (h : CkInv w fo fn fc to_ tn tc z W) (hb : Below W.heap.size W W') : CkInv w fo fn fc to_ tn tc z W' :=
  ⟨h.b.trans (hb.mono h.b.size), h.box.below hb, h.zn.below hb⟩
theorem ckInv_first (w : World) (fo : Option Addr) (fn fc : Nat) (to_ : Option Addr) (tn tc : Nat) (z : Zn) (h : ZnAt w fo fn to_ tn z) : CkInv w fo fn fc to_ tn tc z (w.alloc (.cells #[.int .i64 z.f, .int .i64 z.t, .slice fo fn fc, .slice to_ tn tc] 26)) :=
  ⟨below_box _ _, zbox_new _ _ _ _ _ _, h.below (below_box _ _)⟩

/-- One of its types for each group. -/
def TypesP (z : Zn) : Prop := 8 * (z.types.length : Int) = z.t - z.f ∧ ∀ i, i < z.types.length → typeOk (z.types.getD i 0)

set_option maxHeartbeats 2000000 in
theorem typesMay_any (w : World) (fo : Option Addr) (fn fc : Nat) (to_ : Option Addr) (tn tc : Nat) (z : Zn) (h : ZnAt w fo fn to_ tn z) (hN : newOk z.f z.t) :
    Calls Tryd.prog 39 #[.agg #[.int .i64 z.f, .int .i64 z.t, .slice fo fn fc, .slice to_ tn tc]] w fun e w' => RetIff e (TypesP z) ∧ Below w.heap.size w w' := by
  have I0 := ckInv_first w fo fn fc to_ tn tc z h
  obtain ⟨n1, n2, n3, n4, n5⟩ := hN
  have c0 := I0.box.c0
  have c1 := I0.box.c1
  have c3 := I0.box.c3
  have htl := h.types.len
  have hrc := h.types.reach
  obtain ⟨D, hD⟩ : ∃ D : Nat, z.t - z.f = (D : Int) := ⟨(z.t - z.f).toNat, by omega⟩
  obtain ⟨N, hq⟩ : ∃ N : Nat, (D : Int) / 8 = (N : Int) := ⟨D / 8, by omega⟩
  clear h
  by_cases hlen : tn = N
  · subst hlen
    have hL : Hid (8 * (z.types.length : Int) = z.t - z.f) := by show _ = _; omega
    obtain ⟨W0, hW0⟩ : ∃ W0, w.alloc (.cells #[.int .i64 z.f, .int .i64 z.t, .slice fo fn fc, .slice to_ tn tc] 26) = W0 := ⟨_, rfl⟩
    have HW0 : Hid _ := hW0
    rw [hW0] at I0 c0 c1 c3
    clear hW0
    have htd : ((tn : Int) == (tn : Int)) = true := by simp
    go_enter Tryd.func39, Tryd.ntmps39
    go_wp2_with (rw [HW0.out])
    clear HW0 c0 c1 c3 htd hD hq
    go_loopw [18] (fun iv wr => ∃ k : Nat, k ≤ tn ∧ iv = .int .i64 k ∧ Hid (∀ i, i < k → typeOk (z.types.getD i 0)) ∧ W0 = wr) (fun iv _ => tn - (intOf iv).toNat)
    case atStart => exact ⟨0, Nat.zero_le _, rfl, (fun i hi => absurd hi (Nat.not_lt_zero i)), rfl⟩
    case round =>
      obtain ⟨k, hk, rfl, hT, rfl⟩ := hrel
      by_cases hlt : k < tn
      · obtain ⟨b, o, x, rfl, cx, hX⟩ := I0.zn.types.at_.at k (by omega)
        by_cases hx : 0 ≤ x ∧ x ≤ 2
        · have e1 : Hid (inB x 0 2 = true) := inB_t hx
          have hT' : Hid (∀ i, i < k + 1 → typeOk (z.types.getD i 0)) := fun i hi => by
            by_cases e : i = k
            · rw [e, hX.out]; exact hx
            · exact hT.out i (by omega)
          clear hT hx
          go_wp2_with fail
          go_at_call 30
          refine (isType_any _ _).mono ?_
          rintro e w' ⟨rfl, rfl⟩
          rw [e1.out]
          go_wp2
          go_roundw
          case rel => exact ⟨k + 1, by omega, by go_num, hT', trivial⟩
          case measure => simp [intOf]; omega
        · have e1 : Hid (inB x 0 2 = false) := inB_f hx
          have HF : Hid (¬ TypesP z) := fun g => hx (by have := g.2 k (by omega); rw [hX.out] at this; exact this)
          have hbb := I0.b
          clear hT hx I0
          go_wp2_with fail
          go_at_call 30
          refine (isType_any _ _).mono ?_
          rintro e w' ⟨rfl, rfl⟩
          rw [e1.out]
          go_wp2
          go_ret
          exact ⟨⟨false, rfl, fun g => (by cases g), fun g => absurd g HF.out⟩, hbb⟩
      · have HM : Hid (TypesP z) := ⟨hL.out, fun i hi => hT.out i (by omega)⟩
        have hbb := I0.b
        clear hT I0 hL
        go_wp2
        go_ret
        exact ⟨⟨true, rfl, fun _ => HM.out, fun _ => rfl⟩, hbb⟩
  · have HF : Hid (¬ TypesP z) := fun g => hlen (by have := g.1; omega)
    have hlen' : ((tn : Int) == N) = false := by simp; omega
    go_enter Tryd.func39, Tryd.ntmps39
    go_wp2
    go_ret
    exact ⟨⟨false, rfl, fun g => (by cases g), fun g => absurd g HF.out⟩, I0.b⟩

set_option maxHeartbeats 4000000 in
theorem freeMay_any (w : World) (fo : Option Addr) (fn fc : Nat) (to_ : Option Addr) (tn tc : Nat) (z : Zn) (h : ZnAt w fo fn to_ tn z) (hN : newOk z.f z.t) :
    Calls Tryd.prog 40 #[.agg #[.int .i64 z.f, .int .i64 z.t, .slice fo fn fc, .slice to_ tn tc]] w fun e w' => RetIff e (FreeOk z.f z.t z.f none z.free) ∧ Below w.heap.size w w' := by
  have I0 := ckInv_first w fo fn fc to_ tn tc z h
  have c2 := I0.box.c2
  have hfl := h.free.len
  have hfr := h.free.reach
  clear h
  obtain ⟨W0, hW0⟩ : ∃ W0, w.alloc (.cells #[.int .i64 z.f, .int .i64 z.t, .slice fo fn fc, .slice to_ tn tc] 26) = W0 := ⟨_, rfl⟩
  have HW0 : Hid _ := hW0
  rw [hW0] at I0 c2
  clear hW0
  obtain ⟨n1, n2, n3, n4, n5⟩ := id hN
  go_enter Tryd.func40, Tryd.ntmps40
  go_wp2_with (rw [HW0.out])
  clear HW0 c2
  go_loopw [9] (fun iv wr => ∃ k : Nat, k ≤ fn ∧ iv = .int .i64 k ∧ Hid (FreeOk z.f z.t z.f none (z.free.take k)) ∧ CkInv w fo fn fc to_ tn tc z wr) (fun iv _ => fn - (intOf iv).toNat)
  case atStart => exact ⟨0, Nat.zero_le _, rfl, trivial, I0⟩
  case round =>
    obtain ⟨k, hk, rfl, hF, I⟩ := hrel
    clear I0
    by_cases hlt : k < fn
    · obtain ⟨bb, bf, x, y, u, rfl, x0, x1, x2, hX⟩ := I.zn.free.at_.at k (by omega)
      have htk := take_getD z.free k (by omega) hX.out
      have hbx := below_box wr (.cells #[.int .i64 x, .int .i64 y, .int .i64 u] 32)
      have I3 := I.step hbx
      have y0 : (wr.alloc (.cells #[.int .i64 x, .int .i64 y, .int .i64 u] 32)).cell? ⟨wr.heap.size, 0, none⟩ = some (.int .i64 x) := by go_simp
      have y1 : (wr.alloc (.cells #[.int .i64 x, .int .i64 y, .int .i64 u] 32)).cell? ⟨wr.heap.size, 1, none⟩ = some (.int .i64 y) := by go_simp
      have y2 : (wr.alloc (.cells #[.int .i64 x, .int .i64 y, .int .i64 u] 32)).cell? ⟨wr.heap.size, 2, none⟩ = some (.int .i64 u) := by go_simp
      have b0 := I3.box.c0
      have b1 := I3.box.c1
      have b2 := I3.box.c2
      have b3 := I3.box.c3
      go_wp2_with fail
      go_at_call 26
      refine (blkMay_any _ z.f z.t _ to_ fn fc tn tc x y hN).mono ?_
      rintro e w4 ⟨rfl, hb4⟩
      have I4 := I3.step hb4
      replace y0 := keep y0 hb4
      replace y1 := keep y1 hb4
      replace y2 := keep y2 hb4
      clear I I3 hbx b0 b1 b2 b3 x0 x1 x2 hb4
      have hbb := I4.b
      by_cases hB : blkIn z.f z.t x y
      · have hB2 := (blkB_iff z.f z.t x y).2 hB
        rw [hB2]
        clear hB2
        obtain ⟨o1, o2, o3, o4⟩ := id hB
        by_cases hU : 0 ≤ u ∧ u ≤ 2
        · have e1 : Hid (inB u 0 2 = true) := inB_t hU
          go_wp2_with fail
          go_at_call 30
          refine (isType_any _ _).mono ?_
          rintro e w' ⟨rfl, rfl⟩
          rw [e1.out]
          by_cases hk0 : k = 0
          · subst hk0
            have hF' : Hid (FreeOk z.f z.t z.f none (z.free.take (0 + 1))) := by
              show FreeOk _ _ _ _ _
              rw [htk, freeOk_snoc]
              exact ⟨hF.out, hB, hU, o2, fun p hp => by cases hp⟩
            clear hF htk
            go_wp2
            go_roundw
            case rel => exact ⟨0 + 1, by omega, by go_num, hF', I4⟩
            case measure => simp [intOf]; omega
          · obtain ⟨j, rfl⟩ : ∃ j, k = j + 1 := ⟨k - 1, by omega⟩
            obtain ⟨bb', bf', x', y', u', he, p0, p1, p2, hX'⟩ := I4.zn.free.at_.at j (by omega)
            cases he
            have hpv := freeOk_at hF.out (k := j) (by simp; omega) (b := ⟨x', y', u'⟩) (by
              have := hX'.out
              rw [List.getD_eq_getElem?_getD, List.getElem?_take, if_pos (by omega), ← List.getD_eq_getElem?_getD]
              exact this)
            obtain ⟨⟨v1, v2, v3, v4⟩, _, _, _⟩ := hpv
            dsimp only at v1 v2 v3 v4
            have htj := take_getD z.free j (by omega) hX'.out
            have hlast : lastOf none (z.free.take (j + 1)) = some ⟨x', y', u'⟩ := by rw [htj, lastOf_snoc]
            have hlow : lowOf z.f (z.free.take (j + 1)) = x' + pw y' := by rw [htj, lowOf_snoc]
            have c2 := I4.box.c2
            have hji : ((j + 1 : Nat) : Int) - 1 = (j : Int) := by omega
            have hjj : ((j + 1 : Nat) : Int) = (j : Int) + 1 := by simp
            have hj1 : (j : Int) < fn := by omega
            have hj2 : j < fn := by omega
            have hj0 : ((j : Int) + 1 == 0) = false := by simp; omega
            clear hbb
            go_wp2_with fail
            have hbx5 := below_box w4 (.cells #[.int .i64 x', .int .i64 y', .int .i64 u'] 32)
            have I5 := I4.step hbx5
            have l0 : (w4.alloc (.cells #[.int .i64 x', .int .i64 y', .int .i64 u'] 32)).cell? ⟨w4.heap.size, 0, none⟩ = some (.int .i64 x') := by go_simp
            have l1 : (w4.alloc (.cells #[.int .i64 x', .int .i64 y', .int .i64 u'] 32)).cell? ⟨w4.heap.size, 1, none⟩ = some (.int .i64 y') := by go_simp
            have l2 : (w4.alloc (.cells #[.int .i64 x', .int .i64 y', .int .i64 u'] 32)).cell? ⟨w4.heap.size, 2, none⟩ = some (.int .i64 u') := by go_simp
            replace y0 := keep y0 hbx5
            replace y1 := keep y1 hbx5
            replace y2 := keep y2 hbx5
            obtain ⟨W5, hW5⟩ : ∃ W5, w4.alloc (.cells #[.int .i64 x', .int .i64 y', .int .i64 u'] 32) = W5 := ⟨_, rfl⟩
            rw [hW5] at I5 l0 l1 l2 y0 y1 y2 ⊢
            clear hW5 hbx5 I4 c2 p0 p1 p2
            have m0 : ∀ wx, Below W5.heap.size W5 wx → wx.cell? ⟨wr.heap.size, 0, none⟩ = some (.int .i64 x) := fun wx h => keep y0 h
            have m1 : ∀ wx, Below W5.heap.size W5 wx → wx.cell? ⟨wr.heap.size, 1, none⟩ = some (.int .i64 y) := fun wx h => keep y1 h
            have m2 : ∀ wx, Below W5.heap.size W5 wx → wx.cell? ⟨wr.heap.size, 2, none⟩ = some (.int .i64 u) := fun wx h => keep y2 h
            have r0 : ∀ wx, Below W5.heap.size W5 wx → wx.cell? ⟨w4.heap.size, 0, none⟩ = some (.int .i64 x') := fun wx h => keep l0 h
            have r1 : ∀ wx, Below W5.heap.size W5 wx → wx.cell? ⟨w4.heap.size, 1, none⟩ = some (.int .i64 y') := fun wx h => keep l1 h
            have r2 : ∀ wx, Below W5.heap.size W5 wx → wx.cell? ⟨w4.heap.size, 2, none⟩ = some (.int .i64 u') := fun wx h => keep l2 h
            obtain ⟨E, hE⟩ : ∃ E, x' + pw y' = E := ⟨_, rfl⟩
            have HBeh : Hid (∀ W, Below W5.heap.size W5 W → Calls Tryd.prog 42 #[.agg #[.int .i64 x', .int .i64 y', .int .i64 u']] W fun e w' => e = .returned (.int .i64 E) ∧ Below W5.heap.size W5 w') := fun W hS => by
              rw [← hE]
              refine (behind_any W x' y' u' v1 (by omega) (by omega)).mono ?_
              rintro e w' ⟨rfl, hb⟩
              exact ⟨rfl, hS.trans (hb.mono hS.size)⟩
            obtain ⟨R, hR⟩ : ∃ R, areB ⟨x', y', u'⟩ ⟨x, y, u⟩ = R := ⟨_, rfl⟩
            have HAre : Hid (∀ W, Below W5.heap.size W5 W → Calls Tryd.prog 51 #[.agg #[.int .i64 x', .int .i64 y', .int .i64 u'], .agg #[.int .i64 x, .int .i64 y, .int .i64 u]] W fun e w' => e = .returned (.bool R) ∧ Below W5.heap.size W5 w') := fun W hS => by
              rw [← hR]
              refine (areBeside_any W ⟨x', y', u'⟩ ⟨x, y, u⟩ v1 (by dsimp only; omega) (by dsimp only; omega) v4).mono ?_
              rintro e w' ⟨rfl, hb⟩
              exact ⟨rfl, hS.trans (hb.mono hS.size)⟩
            have S0 : Below W5.heap.size W5 W5 := Below.refl _ _
            rw [hE] at hlow
            by_cases hlw : x < E
            · have HF : Hid (¬ FreeOk z.f z.t z.f none z.free) := fun g => by have := (freeOk_at g (by omega) hX.out).2.2.1; rw [hlow] at this; dsimp only at this; omega
              have hlw' : decide (x < E) = true := decide_eq_true hlw
              clear hF htk htj hX hX' hlast hlow hE hR
              go_region_with (first | (go_at_call 42; refine (HBeh.out _ ?_).mono ?_; (first | exact Below.drew S0 | assumption); rintro e w6 ⟨rfl, hS6⟩; have a0 := m0 _ hS6; have a1 := m1 _ hS6; have a2 := m2 _ hS6; have a3 := r0 _ hS6; have a4 := r1 _ hS6; have a5 := r2 _ hS6) | (go_at_call 51; refine (HAre.out _ ?_).mono ?_; (first | assumption | exact Below.drew (by assumption)); rintro e w7 ⟨rfl, hS7⟩))
              all_goals
                have hbb := I5.b.trans (hS6.mono I5.b.size)
                clear I5 HBeh HAre m0 m1 m2 r0 r1 r2 S0
                go_wp2
                go_ret
                exact ⟨⟨false, rfl, fun g => (by cases g), fun g => absurd g HF.out⟩, hbb⟩
            · have hlw' : decide (x < E) = false := decide_eq_false hlw
              cases R with
              | true =>
                have HF : Hid (¬ FreeOk z.f z.t z.f none z.free) := fun g => (freeOk_at g (by omega) hX.out).2.2.2 _ hlast ((areB_iff (by dsimp only; omega)).1 hR)
                clear hF htk htj hX hX' hlast hlow hE hR
                go_region_with (first | (go_at_call 42; refine (HBeh.out _ ?_).mono ?_; (first | exact Below.drew S0 | assumption); rintro e w6 ⟨rfl, hS6⟩; have a0 := m0 _ hS6; have a1 := m1 _ hS6; have a2 := m2 _ hS6; have a3 := r0 _ hS6; have a4 := r1 _ hS6; have a5 := r2 _ hS6) | (go_at_call 51; refine (HAre.out _ ?_).mono ?_; (first | assumption | exact Below.drew (by assumption)); rintro e w7 ⟨rfl, hS7⟩))
                all_goals
                  have hbb := I5.b.trans (hS7.mono I5.b.size)
                  clear I5 HBeh HAre m0 m1 m2 r0 r1 r2 S0
                  go_wp2
                  go_ret
                  exact ⟨⟨false, rfl, fun g => (by cases g), fun g => absurd g HF.out⟩, hbb⟩
              | false =>
                have hF' : Hid (FreeOk z.f z.t z.f none (z.free.take (j + 1 + 1))) := by
                  show FreeOk _ _ _ _ _
                  rw [htk, freeOk_snoc]
                  refine ⟨hF.out, hB, hU, by rw [hlow]; dsimp only; omega, fun p hp => ?_⟩
                  rw [hlast] at hp
                  cases hp
                  intro g
                  have := (areB_iff (by dsimp only; omega)).2 g
                  rw [hR] at this
                  cases this
                clear hF htk htj hX hX' hlast hlow hE hR
                go_region_with (first | (go_at_call 42; refine (HBeh.out _ ?_).mono ?_; (first | exact Below.drew S0 | assumption); rintro e w6 ⟨rfl, hS6⟩; have a0 := m0 _ hS6; have a1 := m1 _ hS6; have a2 := m2 _ hS6; have a3 := r0 _ hS6; have a4 := r1 _ hS6; have a5 := r2 _ hS6) | (go_at_call 51; refine (HAre.out _ ?_).mono ?_; (first | assumption | exact Below.drew (by assumption)); rintro e w7 ⟨rfl, hS7⟩))
                all_goals
                  have I7 := I5.step hS7
                  clear I5 HBeh HAre m0 m1 m2 r0 r1 r2 S0
                  go_wp2
                  go_roundw
                  case rel => exact ⟨(j + 1) + 1, by omega, by go_num, hF', I7⟩
                  case measure => simp [intOf]; omega
        · have e1 : Hid (inB u 0 2 = false) := inB_f hU
          have HF : Hid (¬ FreeOk z.f z.t z.f none z.free) := fun g => hU (freeOk_at g (by omega) hX.out).2.1
          clear hF htk
          go_wp2_with fail
          go_at_call 30
          refine (isType_any _ _).mono ?_
          rintro e w' ⟨rfl, rfl⟩
          rw [e1.out]
          go_wp2
          go_ret
          exact ⟨⟨false, rfl, fun g => (by cases g), fun g => absurd g HF.out⟩, hbb⟩
      · have hB2 : blkB z.f z.t x y = false := by
          cases hb : blkB z.f z.t x y with
          | false => rfl
          | true => exact absurd ((blkB_iff z.f z.t x y).1 hb) hB
        rw [hB2]
        have HF : Hid (¬ FreeOk z.f z.t z.f none z.free) := fun g => hB (freeOk_at g (by omega) hX.out).1
        clear hF htk
        go_wp2
        go_ret
        exact ⟨⟨false, rfl, fun g => (by cases g), fun g => absurd g HF.out⟩, hbb⟩
    · have HM : Hid (FreeOk z.f z.t z.f none z.free) := by have := hF.out; rw [List.take_of_length_le (by omega)] at this; exact this
      have hbb := I.b
      clear hF
      go_wp2
      go_ret
      exact ⟨⟨true, rfl, fun _ => HM.out, fun _ => rfl⟩, hbb⟩

theorem zMay_iff (z : Zn) : ZMay z ↔ newOk z.f z.t ∧ TypesP z ∧ FreeOk z.f z.t z.f none z.free :=
  ⟨fun h => ⟨h.new, ⟨h.len, h.ty⟩, h.free⟩, fun ⟨h1, h2, h3⟩ => ⟨h1, h2.1, h2.2, h3⟩⟩

set_option maxHeartbeats 1000000 in
theorem zCheck_any (w : World) (fo : Option Addr) (fn fc : Nat) (to_ : Option Addr) (tn tc : Nat) (z : Zn) (h : ZnAt w fo fn to_ tn z) :
    Calls Tryd.prog 25 #[.agg #[.int .i64 z.f, .int .i64 z.t, .slice fo fn fc, .slice to_ tn tc]] w fun e w' => (∃ c, e = .returned (.int .i64 c) ∧ (c = 0 ∧ ZMay z ∨ c = 8 ∧ ¬ ZMay z)) ∧ Below w.heap.size w w' := by
  have I0 := ckInv_first w fo fn fc to_ tn tc z h
  have c0 := I0.box.c0
  have c1 := I0.box.c1
  have c2 := I0.box.c2
  have c3 := I0.box.c3
  clear h
  by_cases hn : newOk z.f z.t
  · have HB : Hid (newB z.f z.t = true) := newB_t hn
    go_enter Tryd.func25, Tryd.ntmps25
    go_wp2_with fail
    go_at_call 38
    refine (bounds_any _ _ _).mono ?_
    rintro e w' ⟨rfl, rfl⟩
    rw [HB.out]
    go_wp2_with fail
    go_at_call 39
    refine (typesMay_any _ fo fn fc to_ tn tc z I0.zn hn).mono ?_
    rintro e w1 ⟨⟨r, rfl, hr⟩, hb1⟩
    have I1 := I0.step hb1
    clear I0 c0 c1 c2 c3 hb1
    have c0 := I1.box.c0
    have c1 := I1.box.c1
    have c2 := I1.box.c2
    have c3 := I1.box.c3
    cases r with
    | false =>
      have HF : Hid (¬ ZMay z) := fun g => by have := hr.2 ((zMay_iff z).1 g).2.1; cases this
      have hbb := I1.b
      clear hr I1 c0 c1 c2 c3
      go_wp2
      go_ret
      exact ⟨⟨8, rfl, .inr ⟨rfl, HF.out⟩⟩, hbb⟩
    | true =>
      have HT : Hid (TypesP z) := hr.1 rfl
      clear hr
      go_wp2_with fail
      go_at_call 40
      refine (freeMay_any _ fo fn fc to_ tn tc z I1.zn hn).mono ?_
      rintro e w2 ⟨⟨r, rfl, hr⟩, hb2⟩
      have hbb := (I1.step hb2).b
      clear I1 c0 c1 c2 c3 hb2
      cases r with
      | false =>
        have HF : Hid (¬ ZMay z) := fun g => by have := hr.2 ((zMay_iff z).1 g).2.2; cases this
        clear hr
        go_wp2
        go_ret
        exact ⟨⟨8, rfl, .inr ⟨rfl, HF.out⟩⟩, hbb⟩
      | true =>
        have HM : Hid (ZMay z) := (zMay_iff z).2 ⟨hn, HT.out, hr.1 rfl⟩
        clear hr
        go_wp2
        go_ret
        exact ⟨⟨0, rfl, .inl ⟨rfl, HM.out⟩⟩, hbb⟩
  · have HB : Hid (newB z.f z.t = false) := newB_f hn
    have HF : Hid (¬ ZMay z) := fun g => hn g.new
    have hbb := I0.b
    clear hn
    go_enter Tryd.func25, Tryd.ntmps25
    go_wp2_with fail
    go_at_call 38
    refine (bounds_any _ _ _).mono ?_
    rintro e w' ⟨rfl, rfl⟩
    rw [HB.out]
    clear I0 c0 c1 c2 c3
    go_wp2
    go_ret
    exact ⟨⟨8, rfl, .inr ⟨rfl, HF.out⟩⟩, hbb⟩

theorem zCheck_ok (w : World) (fo : Option Addr) (fn fc : Nat) (to_ : Option Addr) (tn tc : Nat) (z : Zn) (h : ZnAt w fo fn to_ tn z) (hM : ZMay z) :
    Calls Tryd.prog 25 #[.agg #[.int .i64 z.f, .int .i64 z.t, .slice fo fn fc, .slice to_ tn tc]] w fun e w' => e = .returned (.int .i64 0) ∧ Below w.heap.size w w' := by
  refine (zCheck_any w fo fn fc to_ tn tc z h).mono ?_
  rintro e w1 ⟨⟨c, rfl, hc⟩, hb⟩
  rcases hc with ⟨rfl, _⟩ | ⟨_, g⟩
  · exact ⟨rfl, hb⟩
  · exact absurd hM g

theorem zCheck_no (w : World) (fo : Option Addr) (fn fc : Nat) (to_ : Option Addr) (tn tc : Nat) (z : Zn) (h : ZnAt w fo fn to_ tn z) (_hf : ZFits z) (hM : ¬ ZMay z) :
    Calls Tryd.prog 25 #[.agg #[.int .i64 z.f, .int .i64 z.t, .slice fo fn fc, .slice to_ tn tc]] w fun e w' => e = .returned (.int .i64 8) ∧ Below w.heap.size w w' := by
  refine (zCheck_any w fo fn fc to_ tn tc z h).mono ?_
  rintro e w1 ⟨⟨c, rfl, hc⟩, hb⟩
  rcases hc with ⟨_, g⟩ | ⟨rfl, _⟩
  · exact absurd g hM
  · exact ⟨rfl, hb⟩

end Go.Proofs.YtffhpjjioefaeafDoor
