/-
  OWN TEXTS, bundled: HcI, HAway, SOwn, SxK, ScCache.
-/
import Derived.Test.YtnijjpakpphhhaaSlabCopiesPart3
import Derived.Test.YtnijjpakpphhhaaSlabCopiesPart6
import Derived.Test.YtnijjpakpphhhaaSlabCopiesPart5
import Derived.Test.YtnijjpakpphhhaaSlabCopiesPart1

/-
  OWN TEXT. A heap of pages whose rows the call owns; what is there in the midst of a copy.
-/
namespace Go.Proofs.Ytnijjpakpphhhaa
open Go Go.RowKit Go.Proofs.Ytnijjpakpphhhaa.Kit

/-- The address lies in none of three blocks. -/
def Off3 (p q r : Nat) (ao : Option Addr) : Prop := ∀ a, ao = some a → a.block ≠ p ∧ a.block ≠ q ∧ a.block ≠ r

/-- A heap whose rows of zones, lists and blocks the call owns, at gz, gl, gv; what they point to lies elsewhere. -/
structure HOwn (w : World) (B gz gl gv : Nat) (y : Hx) : Prop where
  oz : w.ownsRow B 70 4 (.slice y.zo y.zn y.zc) y.zn (c4 (y.zs.map Zc.q))
  ol : w.ownsRow B 77 4 (.slice y.lo y.ln y.lc) y.ln (c4 (y.ls.map Lc.q))
  ov : w.ownsRow B 72 3 (.slice y.vo y.vn y.vc) y.vn (bvals y.live)
  ez : y.zo = some ⟨gz, 0, none⟩
  el : ∀ a, y.lo = some a → a.block = gl
  ev : ∀ a, y.vo = some a → a.block = gv
  at_ : y.At w
  zl : gz ≠ gl
  zv : gz ≠ gv
  lv : gl ≠ gv
  zoff : ∀ z ∈ y.zs, Off3 gz gl gv z.fo ∧ Off3 gz gl gv z.to_ ∧ Fresh B z.fo ∧ Fresh B z.to_
  loff : ∀ l ∈ y.ls, Off3 gz gl gv l.po ∧ Fresh B l.po ∧ l.pc = l.pn
  moff : Off3 gz gl gv y.mo
  mfresh : Fresh B y.mo
  gzB : B ≤ gz
  glB : B ≤ gl
  gvB : B ≤ gv

/-- Five numbers of blocks, from s on and below t, no two the same. -/
structure Five (s t X gz gm gl gv : Nat) : Prop where
  x1 : s ≤ X
  z1 : s ≤ gz
  m1 : s ≤ gm
  l1 : s ≤ gl
  v1 : s ≤ gv
  x2 : X < t
  z2 : gz < t
  m2 : gm < t
  l2 : gl < t
  v2 : gv < t
  xz : X ≠ gz
  xm : X ≠ gm
  xl : X ≠ gl
  xv : X ≠ gv
  zm : gz ≠ gm
  zl : gz ≠ gl
  zv : gz ≠ gv
  ml : gm ≠ gl
  mv : gm ≠ gv
  lv : gl ≠ gv

/-- What is there in the midst of a copy. -/
structure HcI (W0 : World) (hb : Nat) (h : Hx) (X gz gm gl gv : Nat) (CZ CM CL CV : List Value) (W : World) : Prop where
  b : Below W0.heap.size W0 W
  hin : HBox W hb (.slice h.zo h.zn h.zc) (.slice h.mo h.mn h.mc) (.int .i64 h.cpus) (.slice h.lo h.ln h.lc) (.slice h.vo h.vn h.vc)
  res : HBox W (hb + 1) (.slice none 0 0) (.slice none 0 0) (.int .i64 0) (.slice none 0 0) (.slice none 0 0)
  box : HBox W X (.slice (some ⟨gz, 0, none⟩) h.zn h.zn) (.slice (some ⟨gm, 0, none⟩) h.mn h.mn) (.int .i64 h.cpus) (.slice (some ⟨gl, 0, none⟩) h.ln h.ln) (.slice (some ⟨gv, 0, none⟩) h.vn h.vn)
  rz : W.heap[gz]? = some (.cells CZ.toArray 70 (0, 0))
  rm : W.heap[gm]? = some (.cells CM.toArray 3 (0, 0))
  rl : W.heap[gl]? = some (.cells CL.toArray 77 (0, 0))
  rv : W.heap[gv]? = some (.cells CV.toArray 72 (0, 0))

theorem lt_of_row {W : World} {g : Nat} {o : Obj} (h : W.heap[g]? = some o) : g < W.heap.size := (Array.getElem?_eq_some_iff.1 h).1

section
variable {W0 : World} {hb : Nat} {h : Hx} {X gz gm gl gv : Nat} {CZ CM CL CV : List Value} {W W' : World} {s t : Nat}
theorem HcI.below (I : HcI W0 hb h X gz gm gl gv CZ CM CL CV W) (hB : Below W.heap.size W W') : HcI W0 hb h X gz gm gl gv CZ CM CL CV W' :=
  ⟨I.b.trans (hB.mono I.b.size), I.hin.below hB, I.res.below hB, I.box.below hB, (hB.block _ (lt_of_row I.rz)).trans I.rz, (hB.block _ (lt_of_row I.rm)).trans I.rm, (hB.block _ (lt_of_row I.rl)).trans I.rl, (hB.block _ (lt_of_row I.rv)).trans I.rv⟩
theorem HcI.setZ (I : HcI W0 hb h X gz gm gl gv CZ CM CL CV W) (F : Five s t X gz gm gl gv) (hs : W0.heap.size = hb + 2) (hs' : s = W0.heap.size) (hB : But gz W W') {C : List Value} (hr : W'.heap[gz]? = some (.cells C.toArray 70 (0, 0))) : HcI W0 hb h X gz gm gl gv C CM CL CV W' :=
  ⟨I.b.trans (hB.below (by have := F.z1; omega) I.b.size), I.hin.but hB (by have := F.z1; omega), I.res.but hB (by have := F.z1; omega), I.box.but hB F.xz, hr, (hB.block _ (lt_of_row I.rm) (fun e => F.zm e.symm)).trans I.rm, (hB.block _ (lt_of_row I.rl) (fun e => F.zl e.symm)).trans I.rl, (hB.block _ (lt_of_row I.rv) (fun e => F.zv e.symm)).trans I.rv⟩
theorem HcI.setM (I : HcI W0 hb h X gz gm gl gv CZ CM CL CV W) (F : Five s t X gz gm gl gv) (hs : W0.heap.size = hb + 2) (hs' : s = W0.heap.size) (hB : But gm W W') {C : List Value} (hr : W'.heap[gm]? = some (.cells C.toArray 3 (0, 0))) : HcI W0 hb h X gz gm gl gv CZ C CL CV W' :=
  ⟨I.b.trans (hB.below (by have := F.m1; omega) I.b.size), I.hin.but hB (by have := F.m1; omega), I.res.but hB (by have := F.m1; omega), I.box.but hB F.xm, (hB.block _ (lt_of_row I.rz) F.zm).trans I.rz, hr, (hB.block _ (lt_of_row I.rl) (fun e => F.ml e.symm)).trans I.rl, (hB.block _ (lt_of_row I.rv) (fun e => F.mv e.symm)).trans I.rv⟩
theorem HcI.setL (I : HcI W0 hb h X gz gm gl gv CZ CM CL CV W) (F : Five s t X gz gm gl gv) (hs : W0.heap.size = hb + 2) (hs' : s = W0.heap.size) (hB : But gl W W') {C : List Value} (hr : W'.heap[gl]? = some (.cells C.toArray 77 (0, 0))) : HcI W0 hb h X gz gm gl gv CZ CM C CV W' :=
  ⟨I.b.trans (hB.below (by have := F.l1; omega) I.b.size), I.hin.but hB (by have := F.l1; omega), I.res.but hB (by have := F.l1; omega), I.box.but hB F.xl, (hB.block _ (lt_of_row I.rz) F.zl).trans I.rz, (hB.block _ (lt_of_row I.rm) F.ml).trans I.rm, hr, (hB.block _ (lt_of_row I.rv) (fun e => F.lv e.symm)).trans I.rv⟩
theorem HcI.setV (I : HcI W0 hb h X gz gm gl gv CZ CM CL CV W) (F : Five s t X gz gm gl gv) (hs : W0.heap.size = hb + 2) (hs' : s = W0.heap.size) (hB : But gv W W') {C : List Value} (hr : W'.heap[gv]? = some (.cells C.toArray 72 (0, 0))) : HcI W0 hb h X gz gm gl gv CZ CM CL C W' :=
  ⟨I.b.trans (hB.below (by have := F.v1; omega) I.b.size), I.hin.but hB (by have := F.v1; omega), I.res.but hB (by have := F.v1; omega), I.box.but hB F.xv, (hB.block _ (lt_of_row I.rz) F.zv).trans I.rz, (hB.block _ (lt_of_row I.rm) F.mv).trans I.rm, (hB.block _ (lt_of_row I.rl) F.lv).trans I.rl, hr⟩
end

theorem HcI.newer {W0 : World} {hb : Nat} {h : Hx} {X gz gm gl gv : Nat} {CZ CM CL CV : List Value} {W W' : World} {s t c : Nat} (I : HcI W0 hb h X gz gm gl gv CZ CM CL CV W) (F : Five s t X gz gm gl gv) (hs : W0.heap.size = hb + 2) (hs' : s = W0.heap.size) (hB : But c W W') (hc : t ≤ c) : HcI W0 hb h X gz gm gl gv CZ CM CL CV W' :=
  ⟨I.b.trans (hB.below (by have := F.z1; have := F.z2; omega) I.b.size), I.hin.but hB (by have := F.z1; have := F.z2; omega), I.res.but hB (by have := F.z1; have := F.z2; omega), I.box.but hB (by have := F.x2; omega), (hB.block _ (lt_of_row I.rz) (by have := F.z2; omega)).trans I.rz, (hB.block _ (lt_of_row I.rm) (by have := F.m2; omega)).trans I.rm, (hB.block _ (lt_of_row I.rl) (by have := F.l2; omega)).trans I.rl, (hB.block _ (lt_of_row I.rv) (by have := F.v2; omega)).trans I.rv⟩
theorem But.then_new {b c : Nat} {w w' w'' : World} (h : But b w w') (k : But c w' w'') (hc : w.heap.size ≤ c) : But b w w'' :=
  ⟨k.os.trans h.os, k.tape.trans h.tape, k.output.trans h.output, Nat.le_trans h.size k.size, fun i hi hb => (k.block i (Nat.lt_of_lt_of_le hi h.size) (by omega)).trans (h.block i hi hb)⟩

/-- Four stores into a row. -/
theorem row_set4 {W : World} {g : Nat} {t : TypeId} {L : List Value} (h : W.heap[g]? = some (.cells L.toArray t (0, 0))) (i : Nat) (a b c d : Value) :
    ((((W.setCell ⟨g, i, none⟩ a).setCell ⟨g, i + 1, none⟩ b).setCell ⟨g, i + 2, none⟩ c).setCell ⟨g, i + 3, none⟩ d).heap[g]? = some (.cells ((((L.set i a).set (i + 1) b).set (i + 2) c).set (i + 3) d).toArray t (0, 0)) := by
  have h1 : (W.setCell ⟨g, i, none⟩ a).heap[g]? = some (.cells (L.toArray.setIfInBounds i a) t (0, 0)) := heap_setCell_same _ _ _ _ _ _ h
  have h2 : ((W.setCell ⟨g, i, none⟩ a).setCell ⟨g, i + 1, none⟩ b).heap[g]? = some (.cells ((L.toArray.setIfInBounds i a).setIfInBounds (i + 1) b) t (0, 0)) := heap_setCell_same _ _ _ _ _ _ h1
  have h3 : (((W.setCell ⟨g, i, none⟩ a).setCell ⟨g, i + 1, none⟩ b).setCell ⟨g, i + 2, none⟩ c).heap[g]? = some (.cells (((L.toArray.setIfInBounds i a).setIfInBounds (i + 1) b).setIfInBounds (i + 2) c) t (0, 0)) := heap_setCell_same _ _ _ _ _ _ h2
  have h4 : ((((W.setCell ⟨g, i, none⟩ a).setCell ⟨g, i + 1, none⟩ b).setCell ⟨g, i + 2, none⟩ c).setCell ⟨g, i + 3, none⟩ d).heap[g]? = some (.cells ((((L.toArray.setIfInBounds i a).setIfInBounds (i + 1) b).setIfInBounds (i + 2) c).setIfInBounds (i + 3) d) t (0, 0)) := heap_setCell_same _ _ _ _ _ _ h3
  simpa using h4
theorem row_set1 {W : World} {g : Nat} {t : TypeId} {L : List Value} (h : W.heap[g]? = some (.cells L.toArray t (0, 0))) (i : Nat) (a : Value) : (W.setCell ⟨g, i, none⟩ a).heap[g]? = some (.cells (L.set i a).toArray t (0, 0)) := by
  have h1 : (W.setCell ⟨g, i, none⟩ a).heap[g]? = some (.cells (L.toArray.setIfInBounds i a) t (0, 0)) := heap_setCell_same _ _ _ _ _ _ h
  simpa using h1
theorem but_set4 (W : World) (g i : Nat) (a b c d : Value) : But g W ((((W.setCell ⟨g, i, none⟩ a).setCell ⟨g, i + 1, none⟩ b).setCell ⟨g, i + 2, none⟩ c).setCell ⟨g, i + 3, none⟩ d) :=
  ((((But.refl g W).setCell a).setCell b).setCell c).setCell d

theorem take_set4 {L A : List Value} {k n : Nat} (hl : L.length = n * 4) (hk : k < n) (ht : L.take (k * 4) = A) (a b c d : Value) :
    ((((L.set (k * 4) a).set (k * 4 + 1) b).set (k * 4 + 2) c).set (k * 4 + 3) d).take ((k + 1) * 4) = A ++ [a, b, c, d] := by
  subst ht
  apply List.ext_getElem?
  intro i
  rw [List.getElem?_take]
  by_cases h : i < (k + 1) * 4
  · rw [if_pos h]
    by_cases h0 : i < k * 4
    · rw [List.getElem?_append_left (by simp; omega), List.getElem?_take, if_pos h0]
      rw [List.getElem?_set_ne (by omega), List.getElem?_set_ne (by omega), List.getElem?_set_ne (by omega), List.getElem?_set_ne (by omega)]
    · rw [List.getElem?_append_right (by simp; omega)]
      have hlen : (L.take (k * 4)).length = k * 4 := by simp; omega
      rw [hlen]
      rcases (show i = k * 4 ∨ i = k * 4 + 1 ∨ i = k * 4 + 2 ∨ i = k * 4 + 3 by omega) with rfl | rfl | rfl | rfl
      · rw [List.getElem?_set_ne (by omega), List.getElem?_set_ne (by omega), List.getElem?_set_ne (by omega), List.getElem?_set_self (by omega)]
        simp
      · rw [List.getElem?_set_ne (by omega), List.getElem?_set_ne (by omega), List.getElem?_set_self (by simp; omega)]
        simp [show k * 4 + 1 - k * 4 = 1 by omega]
      · rw [List.getElem?_set_ne (by omega), List.getElem?_set_self (by simp; omega)]
        simp [show k * 4 + 2 - k * 4 = 2 by omega]
      · rw [List.getElem?_set_self (by simp; omega)]
        simp [show k * 4 + 3 - k * 4 = 3 by omega]
  · rw [if_neg h, List.getElem?_eq_none (by simp; omega)]

theorem row_res4 {W : World} {g : Nat} {t : TypeId} {L : List Value} {n k : Nat} (h : W.heap[g]? = some (.cells L.toArray t (0, 0))) (hl : L.length = n * 4) (hk : k < n) :
    (∃ v, W.cell? ⟨g, k * 4, none⟩ = some v) ∧ (∃ v, W.cell? ⟨g, k * 4 + 1, none⟩ = some v) ∧ (∃ v, W.cell? ⟨g, k * 4 + 2, none⟩ = some v) ∧ (∃ v, W.cell? ⟨g, k * 4 + 3, none⟩ = some v) ∧ ∀ j, W.frozen? ⟨g, j, none⟩ = false := by
  have hc : ∀ j, j < L.length → ∃ v, W.cell? ⟨g, j, none⟩ = some v := fun j hj => ⟨L[j], by rw [cell_of_row _ _ _ _ _ _ h]; simp [hj]⟩
  exact ⟨hc _ (by omega), hc _ (by omega), hc _ (by omega), hc _ (by omega), fun j => frozen_of_row _ _ _ _ _ h⟩

theorem c4_snoc (l : List Q4) (q : Q4) : c4 (l ++ [q]) = c4 l ++ [q.a, q.b, q.c, q.d] := by rw [c4_append]; rfl

/-- The first k zones are copied. -/
structure ZDone (S n k : Nat) (zs done : List Zc) (CZ : List Value) (W : World) : Prop where
  same : done.map (·.z) = (zs.take k).map (·.z)
  at_ : ∀ y ∈ done, y.At W ∧ Fresh S y.fo ∧ Fresh S y.to_
  clen : CZ.length = n * 4
  take : CZ.take (k * 4) = c4 (done.map Zc.q)
theorem ZDone.below {S n k : Nat} {zs done : List Zc} {CZ : List Value} {W W' : World} (h : ZDone S n k zs done CZ W) (hb : Below W.heap.size W W') : ZDone S n k zs done CZ W' :=
  ⟨h.same, fun y hy => ⟨(h.at_ y hy).1.below hb, (h.at_ y hy).2⟩, h.clen, h.take⟩
theorem ZDone.but {S n k c : Nat} {zs done : List Zc} {CZ : List Value} {W W' : World} (h : ZDone S n k zs done CZ W) (hb : But c W W') (hc : c < S) : ZDone S n k zs done CZ W' :=
  ⟨h.same, fun y hy => ⟨hb.zn (h.at_ y hy).1 (fun a ha => by have := (h.at_ y hy).2.1 a ha; omega) (fun a ha => by have := (h.at_ y hy).2.2 a ha; omega), (h.at_ y hy).2⟩, h.clen, h.take⟩
theorem ZDone.first {S n : Nat} {zs : List Zc} {CZ : List Value} {W : World} (h : CZ.length = n * 4) : ZDone S n 0 zs [] CZ W := ⟨rfl, fun y hy => absurd hy (by simp), h, by simp [c4]⟩
theorem ZDone.next {S n k g : Nat} {zs done : List Zc} {CZ : List Value} {W W' : World} (h : ZDone S n k zs done CZ W) (hk : k < n) (hn : zs.length = n) {z : Zn} {fo : Option Addr} {fn fc : Nat} {to_ : Option Addr} {tn tc : Nat} (hz : (zs.getD k .zero).z = z) (hb : But g W W') (hg : g < S) (hat : ZnAt W fo fn to_ tn z) (f1 : Fresh S fo) (f2 : Fresh S to_) :
    ZDone S n (k + 1) zs (done ++ [⟨z, fo, fn, fc, to_, tn, tc⟩]) ((((CZ.set (k * 4) (.int .i64 z.f)).set (k * 4 + 1) (.int .i64 z.t)).set (k * 4 + 2) (.slice fo fn fc)).set (k * 4 + 3) (.slice to_ tn tc)) W' := by
  have h' := h.but hb hg
  refine ⟨?_, ?_, by simpa using h.clen, ?_⟩
  · have e : zs[k]'(by omega) = zs.getD k .zero := by rw [List.getD_eq_getElem?_getD, List.getElem?_eq_getElem (by omega)]; rfl
    rw [List.map_append, h.same, List.take_succ_eq_append_getElem (by omega), List.map_append, e, List.map_cons, List.map_cons, List.map_nil, hz]
  · intro y hy
    rcases List.mem_append.1 hy with hy | hy
    · exact h'.at_ y hy
    · rw [List.mem_singleton] at hy
      subst hy
      exact ⟨hb.zn hat (fun a ha => by have := f1 a ha; omega) (fun a ha => by have := f2 a ha; omega), f1, f2⟩
  · rw [take_set4 h.clen hk h.take, List.map_append, List.map_cons, List.map_nil, c4_snoc]
    rfl
theorem ZDone.all {S n : Nat} {zs done : List Zc} {CZ : List Value} {W : World} (h : ZDone S n n zs done CZ W) (hn : zs.length = n) : done.map (·.z) = zs.map (·.z) ∧ CZ = c4 (done.map Zc.q) := by
  have h1 := h.same
  have h2 := h.take
  rw [List.take_of_length_le (by omega)] at h1
  rw [List.take_of_length_le (by have := h.clen; omega)] at h2
  exact ⟨h1, h2⟩

/-- The first k lists are copied. -/
structure LDone (S n k : Nat) (ls done : List Lc) (CL : List Value) (W : World) : Prop where
  same : done.map (·.l) = (ls.take k).map (·.l)
  at_ : ∀ y ∈ done, y.At W ∧ Fresh S y.po ∧ y.pc = y.pn
  clen : CL.length = n * 4
  take : CL.take (k * 4) = c4 (done.map Lc.q)
theorem LDone.but {S n k c : Nat} {ls done : List Lc} {CL : List Value} {W W' : World} (h : LDone S n k ls done CL W) (hb : But c W W') (hc : c < S) : LDone S n k ls done CL W' :=
  ⟨h.same, fun y hy => ⟨hb.nums (h.at_ y hy).1 (fun a ha => by have := (h.at_ y hy).2.1 a ha; omega), (h.at_ y hy).2⟩, h.clen, h.take⟩
theorem LDone.first {S n : Nat} {ls : List Lc} {CL : List Value} {W : World} (h : CL.length = n * 4) : LDone S n 0 ls [] CL W := ⟨rfl, fun y hy => absurd hy (by simp), h, by simp [c4]⟩
theorem LDone.next {S n k g : Nat} {ls done : List Lc} {CL CL' : List Value} {W W' : World} (h : LDone S n k ls done CL W) (hk : k < n) (hn : ls.length = n) {l : Ls} {po : Option Addr} {pn : Nat} (hz : (ls.getD k .zero).l = l) (hb : But g W W') (hg : g < S) (hat : Nums W' po pn l.pages) (f1 : Fresh S po)
    (hC : CL' = (((CL.set (k * 4) (.int .i64 l.c)).set (k * 4 + 1) (.int .i64 l.z)).set (k * 4 + 2) (.int .i64 l.t)).set (k * 4 + 3) (.slice po pn pn)) : LDone S n (k + 1) ls (done ++ [⟨l, po, pn, pn⟩]) CL' W' := by
  subst hC
  have h' := h.but hb hg
  refine ⟨?_, ?_, by simpa using h.clen, ?_⟩
  · have e : ls[k]'(by omega) = ls.getD k .zero := by rw [List.getD_eq_getElem?_getD, List.getElem?_eq_getElem (by omega)]; rfl
    rw [List.map_append, h.same, List.take_succ_eq_append_getElem (by omega), List.map_append, e, List.map_cons, List.map_cons, List.map_nil, hz]
  · intro y hy
    rcases List.mem_append.1 hy with hy | hy
    · exact h'.at_ y hy
    · rw [List.mem_singleton] at hy
      subst hy
      exact ⟨hat, f1, rfl⟩
  · rw [take_set4 h.clen hk h.take, List.map_append, List.map_cons, List.map_nil, c4_snoc]
    rfl
theorem LDone.all {S n : Nat} {ls done : List Lc} {CL : List Value} {W : World} (h : LDone S n n ls done CL W) (hn : ls.length = n) : done.map (·.l) = ls.map (·.l) ∧ CL = c4 (done.map Lc.q) := by
  have h1 := h.same
  have h2 := h.take
  rw [List.take_of_length_le (by omega)] at h1
  rw [List.take_of_length_le (by have := h.clen; omega)] at h2
  exact ⟨h1, h2⟩

/-- copy, the last step of a region that draws. -/
theorem oper_copy_k {P : Program} {o : Oper} {a : Act} {w : World} {K : Act → World → Prop} {Q : Exit → Act → World → Prop} (hgd : o.guard = none) (d s : Operand) (dT sT : TypeId)
    (ho : o.op = .call { callee := .builtin .copy, args := #[d, s], argTypes := #[dT, sT] }) (elem : TypeId) (k : Nat) (hu : P.underlying dT = some (.slice elem)) (hsz : (P.info? elem).map (·.size) = some k)
    (dp sp : Option Addr) (dLen dCap sLen sCap : Nat) (hd : a.eval d = .slice dp dLen dCap) (hs : a.eval s = .slice sp sLen sCap)
    (g off : Nat) (cur : List Value) (t : TypeId) (hg : w.heap[g]? = some (.cells cur.toArray t (0, 0))) (cs : List Value) (m : Nat) (hm : Nat.min sLen dLen = m) (hn : cs.length = m * k)
    (hpos : 0 < m → dp = some ⟨g, off, none⟩ ∧ ∃ ad, sp = some ad ∧ ∀ j v, cs[j]? = some v → w.cell? (ad.add j) = some v)
    (hfit : off + cs.length ≤ cur.length) (h1 : ∀ v ∈ cs, v.oneCell' = true)
    (h : ∀ w', Hid (w'.heap[g]? = some (.cells (splice cur off cs).toArray t (0, 0))) → But g w w' → K (a.put o.dst (goInt m)) w') : Oper.wp P o a w K Q := by
  have h := step_copy_k (P := P) (ops := #[]) (E := True) (Q := Q) hgd d s dT sT ho elem k hu hsz dp sp dLen dCap sLen sCap hd hs g off cur t hg cs m hm hn hpos hfit h1 h
  simpa [Region.wanted, hgd] using h

/-- A heap in new memory is returned. -/
def RetHeap (B : Nat) (w' : World) (H : Hp) (e : Ending) : Prop :=
  ∃ gz gl gv y, e = .returned (.agg #[.slice y.zo y.zn y.zc, .slice y.mo y.mn y.mc, .int .i64 y.cpus, .slice y.lo y.ln y.lc, .slice y.vo y.vn y.vc]) ∧ y.hp = H ∧ HOwn w' B gz gl gv y

theorem HcI.owns {W0 : World} {hb : Nat} {x : Hx} {X gz gm gl gv : Nat} {CZ CM CL CV : List Value} {W : World} {S : Nat} {zd : List Zc} {ld : List Lc} (I : HcI W0 hb x X gz gm gl gv CZ CM CL CV W) (F : Five W0.heap.size S X gz gm gl gv) (hx : x.At W)
    (D : ZDone S x.zn x.zn x.zs zd CZ W) (L : LDone S x.ln x.ln x.ls ld CL W) (hM : CM = vals x.mins) (hV : CV = bvals x.live) :
    HOwn W W0.heap.size gz gl gv ⟨zd, some ⟨gz, 0, none⟩, x.zn, x.zn, x.mins, some ⟨gm, 0, none⟩, x.mn, x.mn, x.cpus, ld, some ⟨gl, 0, none⟩, x.ln, x.ln, x.live, some ⟨gv, 0, none⟩, x.vn, x.vn⟩ ∧
    (Hx.mk zd (some ⟨gz, 0, none⟩) x.zn x.zn x.mins (some ⟨gm, 0, none⟩) x.mn x.mn x.cpus ld (some ⟨gl, 0, none⟩) x.ln x.ln x.live (some ⟨gv, 0, none⟩) x.vn x.vn).hp = x.hp := by
  obtain ⟨d1, d2⟩ := D.all hx.zones.len
  obtain ⟨l1, l2⟩ := L.all hx.lists.len
  have rz := hx.zones.reach
  have rm := hx.mins.reach
  have rl := hx.lists.reach
  have rv := hx.live.reach
  have f1 := F.z1
  have f2 := F.m1
  have f3 := F.l1
  have f4 := F.v1
  have oz : W.ownsRow W0.heap.size 70 4 (.slice (some ⟨gz, 0, none⟩) x.zn x.zn) x.zn (c4 (zd.map Zc.q)) := by rw [← d2]; exact owns_of_row I.rz (by omega) D.clen (by unfold maxLen; omega)
  have ol : W.ownsRow W0.heap.size 77 4 (.slice (some ⟨gl, 0, none⟩) x.ln x.ln) x.ln (c4 (ld.map Lc.q)) := by rw [← l2]; exact owns_of_row I.rl (by omega) L.clen (by unfold maxLen; omega)
  have lV : CV.length = x.vn * 3 := by rw [hV, length_bvals, hx.live.len]
  have lM : CM.length = x.mn * 1 := by rw [hM, length_vals, hx.mins.len]; omega
  have ov : W.ownsRow W0.heap.size 72 3 (.slice (some ⟨gv, 0, none⟩) x.vn x.vn) x.vn (bvals x.live) := by rw [← hV]; exact owns_of_row I.rv (by omega) lV (by unfold maxLen; omega)
  have om : W.ownsRow W0.heap.size 3 1 (.slice (some ⟨gm, 0, none⟩) x.mn x.mn) x.mn (vals x.mins) := by rw [← hM]; exact owns_of_row I.rm (by omega) lM (by unfold maxLen; omega)
  have hz : Zons W (some ⟨gz, 0, none⟩) x.zn zd := ⟨by have := congrArg List.length d1; simp only [List.length_map] at this; rw [this]; exact hx.zones.len, rz, c4_of_owns oz, fun y hy => (D.at_ y hy).1⟩
  have hl : Lsts W (some ⟨gl, 0, none⟩) x.ln ld := ⟨by have := congrArg List.length l1; simp only [List.length_map] at this; rw [this]; exact hx.lists.len, rl, c4_of_owns ol, fun y hy => (L.at_ y hy).1⟩
  have off : ∀ {ao : Option Addr}, Fresh S ao → Off3 gz gl gv ao := fun h a ha => by
    have := h a ha
    have g1 := F.z2
    have g2 := F.l2
    have g3 := F.v2
    exact ⟨by omega, by omega, by omega⟩
  have wk : ∀ {ao : Option Addr}, Fresh S ao → Fresh W0.heap.size ao := fun h => h.mono (by have := F.z2; omega)
  refine ⟨⟨oz, ol, ov, rfl, fun a ha => by cases ha; rfl, fun a ha => by cases ha; rfl, ⟨hz, nums_of_owns om rm, hl, blks_own ov rv⟩, F.zl, F.zv, F.lv, fun y hy => ?_, fun y hy => ?_, ?_, ?_, by omega, by omega, by omega⟩, ?_⟩
  · obtain ⟨_, h1, h2⟩ := D.at_ y hy
    exact ⟨off h1, off h2, wk h1, wk h2⟩
  · obtain ⟨_, h1, h2⟩ := L.at_ y hy
    exact ⟨off h1, wk h1, h2⟩
  · intro a ha
    cases ha
    exact ⟨fun e => F.zm e.symm, F.ml, F.mv⟩
  · intro a ha
    cases ha
    show W0.heap.size ≤ gm
    omega
  · show Hp.mk _ _ _ _ _ = Hp.mk _ _ _ _ _
    rw [d1, l1]

theorem HOwn.but {W W' : World} {B gz gl gv c : Nat} {y : Hx} (h : HOwn W B gz gl gv y) (hb : But c W W') (hc : c < B) : HOwn W' B gz gl gv y := by
  have g1 := h.gzB
  have g2 := h.glB
  have g3 := h.gvB
  have keepOwn : ∀ {e : TypeId} {size n cap : Nat} {ao : Option Addr} {xs : List Value}, W.ownsRow B e size (.slice ao n cap) n xs → W'.ownsRow B e size (.slice ao n cap) n xs := by
    intro e size n cap ao xs ho
    refine ⟨ho.1, ?_⟩
    rcases ho.2 with hn | ⟨g, cp, cur, hv, hbg, hg, rest⟩
    · exact .inl hn
    · exact .inr ⟨g, cp, cur, hv, hbg, (hb.block g (lt_of_row hg) (by omega)).trans hg, rest⟩
  have fr : ∀ {ao : Option Addr}, Fresh B ao → ∀ a, ao = some a → a.block ≠ c := fun hf a ha => by have := hf a ha; omega
  have oz := keepOwn h.oz
  have ol := keepOwn h.ol
  have ov := keepOwn h.ov
  exact ⟨oz, ol, ov, h.ez, h.el, h.ev, ⟨⟨h.at_.zones.len, h.at_.zones.reach, c4_of_owns oz, fun z hz => hb.zn (h.at_.zones.at_ z hz) (fr (h.zoff z hz).2.2.1) (fr (h.zoff z hz).2.2.2)⟩, hb.nums h.at_.mins (fr h.mfresh), ⟨h.at_.lists.len, h.at_.lists.reach, c4_of_owns ol, fun l hl => hb.nums (h.at_.lists.at_ l hl) (fr (h.loff l hl).2.1)⟩, ⟨h.at_.live.len, h.at_.live.reach, blks_of_owns ov⟩⟩, h.zl, h.zv, h.lv, h.zoff, h.loff, h.moff, h.mfresh, h.gzB, h.glB, h.gvB⟩

theorem HOwn.weaken {W : World} {B B' gz gl gv : Nat} {y : Hx} (h : HOwn W B gz gl gv y) (hb : B' ≤ B) : HOwn W B' gz gl gv y :=
  ⟨owns_weaken h.oz hb, owns_weaken h.ol hb, owns_weaken h.ov hb, h.ez, h.el, h.ev, h.at_, h.zl, h.zv, h.lv, fun z hz => ⟨(h.zoff z hz).1, (h.zoff z hz).2.1, (h.zoff z hz).2.2.1.mono hb, (h.zoff z hz).2.2.2.mono hb⟩, fun l hl => ⟨(h.loff l hl).1, (h.loff l hl).2.1.mono hb, (h.loff l hl).2.2⟩, h.moff, h.mfresh.mono hb, Nat.le_trans hb h.gzB, Nat.le_trans hb h.glB, Nat.le_trans hb h.gvB⟩

end Go.Proofs.Ytnijjpakpphhhaa

/-
  OWN TEXT. A heap of which no element lies in a block.
-/
namespace Go.Proofs.Ytnijjpakpphhhaa
open Go Go.RowKit Go.Proofs.Ytnijjpakpphhhaa.Kit

theorem blks_lt {w : World} {ao : Option Addr} {n : Nat} {l : List Bk} (h : Blks w ao n l) (h0 : 0 < l.length) : ∀ a, ao = some a → a.block < w.heap.size := by
  intro a ha
  obtain ⟨b, off, e, hc, _⟩ := h.at_ 0 h0
  rw [e] at ha
  cases ha
  exact World.block_lt_of_cell? w _ hc
theorem nums_lt {w : World} {ao : Option Addr} {n : Nat} {l : List Int} (h : Nums w ao n l) (h0 : 0 < l.length) : ∀ a, ao = some a → a.block < w.heap.size := by
  intro a ha
  obtain ⟨b, off, e, hc⟩ := h.at_ 0 h0
  rw [e] at ha
  cases ha
  exact World.block_lt_of_cell? w _ hc
theorem blks_but {w w' : World} {b : Nat} {ao : Option Addr} {n : Nat} {l : List Bk} (h : Blks w ao n l) (hb : But b w w') (hne : 0 < l.length → ∀ a, ao = some a → a.block ≠ b) : Blks w' ao n l := by
  by_cases h0 : 0 < l.length
  · exact hb.blks h (hne h0)
  · exact ⟨h.len, h.reach, fun i hi => absurd hi (by omega)⟩
theorem nums_but {w w' : World} {b : Nat} {ao : Option Addr} {n : Nat} {l : List Int} (h : Nums w ao n l) (hb : But b w w') (hne : 0 < l.length → ∀ a, ao = some a → a.block ≠ b) : Nums w' ao n l := by
  by_cases h0 : 0 < l.length
  · exact hb.nums h (hne h0)
  · exact ⟨h.len, h.reach, fun i hi => absurd hi (by omega)⟩
/-- No element of the heap lies in block b. -/
structure Away (b : Nat) (y : Hx) : Prop where
  f : ∀ z ∈ y.zs, 0 < z.z.free.length → ∀ a, z.fo = some a → a.block ≠ b
  t : ∀ z ∈ y.zs, 0 < z.z.types.length → ∀ a, z.to_ = some a → a.block ≠ b
  m : 0 < y.mins.length → ∀ a, y.mo = some a → a.block ≠ b
  l : 0 < y.ls.length → ∀ a, y.lo = some a → a.block ≠ b
  p : ∀ l ∈ y.ls, 0 < l.l.pages.length → ∀ a, l.po = some a → a.block ≠ b
  v : 0 < y.live.length → ∀ a, y.vo = some a → a.block ≠ b
theorem away_old {w : World} {b : Nat} {y : Hx} (h : y.At w) (hb : w.heap.size ≤ b) : Away b y := by
  refine ⟨fun z hz h0 a ha => ?_, fun z hz h0 a ha => ?_, fun h0 a ha => ?_, fun h0 a ha => ?_, fun l hl h0 a ha => ?_, fun h0 a ha => ?_⟩
  · have := blks_lt (h.zones.at_ z hz).free h0 a ha; omega
  · have := nums_lt (h.zones.at_ z hz).types h0 a ha; omega
  · have := nums_lt h.mins h0 a ha; omega
  · obtain ⟨c, off, e, hc, _⟩ := h.lists.cells 0 (by simpa using h0)
    rw [e] at ha
    cases ha
    have := World.block_lt_of_cell? w _ hc
    dsimp only at this ⊢
    omega
  · have := nums_lt (h.lists.at_ l hl) h0 a ha; omega
  · have := blks_lt h.live h0 a ha; omega

end Go.Proofs.Ytnijjpakpphhhaa

/-
  OWN TEXT. A heap of which no part lies in a block; caches and systems whose rows the call owns, each in a block of its own.
-/
namespace Go.Proofs.Ytnijjpakpphhhaa
open Go Go.RowKit Go.Proofs.Ytnijjpakpphhhaa.Kit

/-- No part of a heap lies in this block. -/
def OffH (b : Nat) (y : Hx) : Prop := Away b y ∧ (0 < y.zs.length → ∀ a, y.zo = some a → a.block ≠ b)
theorem offH_old {w : World} {b : Nat} {y : Hx} (h : y.At w) (hb : w.heap.size ≤ b) : OffH b y := by
  refine ⟨away_old h hb, fun h0 a ha => ?_⟩
  obtain ⟨c, off, e, hc, _⟩ := h.zones.cells 0 (by simpa using h0)
  rw [e] at ha
  cases ha
  have := World.block_lt_of_cell? w _ hc
  dsimp only at this ⊢
  omega
theorem OffH.but {w w' : World} {b : Nat} {y : Hx} (o : OffH b y) (h : y.At w) (hb : But b w w') : y.At w' := by
  obtain ⟨a, z⟩ := o
  refine ⟨⟨h.zones.len, h.zones.reach, ?_, fun q hq => ⟨blks_but (h.zones.at_ q hq).free hb (a.f q hq), nums_but (h.zones.at_ q hq).types hb (a.t q hq)⟩⟩, nums_but h.mins hb a.m, ⟨h.lists.len, h.lists.reach, ?_, fun l hl => nums_but (h.lists.at_ l hl) hb (a.p l hl)⟩, blks_but h.live hb a.v⟩
  · by_cases e : 0 < y.zs.length
    · exact h.zones.cells.but hb (z e)
    · intro i hi; rw [List.length_map] at hi; omega
  · by_cases e : 0 < y.ls.length
    · exact h.lists.cells.but hb (a.l e)
    · intro i hi; rw [List.length_map] at hi; omega
theorem HOwn.offH {w : World} {B gz gl gv : Nat} {y : Hx} (h : HOwn w B gz gl gv y) {b : Nat} (hb : b < B) : OffH b y := by
  have hf : ∀ ao, Fresh B ao → ∀ a, ao = some a → a.block ≠ b := fun ao h a ha => by have := h a ha; omega
  refine ⟨⟨fun z hz _ => hf _ (h.zoff z hz).2.2.1, fun z hz _ => hf _ (h.zoff z hz).2.2.2, fun _ => hf _ h.mfresh, fun _ a ha => ?_, fun l hl _ => hf _ (h.loff l hl).2.1, fun _ a ha => ?_⟩, fun _ a ha => ?_⟩
  · have := h.el a ha; have := h.glB; omega
  · have := h.ev a ha; have := h.gvB; omega
  · rw [h.ez] at ha; cases ha; have := h.gzB; dsimp only; omega

/-- The block that a slice lies in. -/
def blkA (a : Option Addr) : List Nat := (a.map (·.block)).toList
theorem mem_blkA {a : Option Addr} {b : Nat} : b ∈ blkA a ↔ ∃ x, a = some x ∧ x.block = b := by
  cases a with
  | none => simp [blkA]
  | some x => simp [blkA, eq_comm]
def Kit.Cc.blks (y : Cc) : List Nat := blkA y.no ++ (blkA y.so ++ blkA y.ao)
def Kit.Sy.blks (y : Sy) : List Nat := blkA y.wo ++ (blkA y.co ++ y.cs.flatMap Cc.blks)
/-- A cache whose rows the call owns. -/
structure CcO (s : Nat) (W : World) (y : Cc) : Prop where
  names : W.ownsRow s 9 1 (.slice y.no y.nn y.nc) y.nn (svals y.c.names)
  slabs : W.ownsRow s 49 3 (.slice y.so y.sn y.sc) y.sn (bvals y.c.slabs)
  act : W.ownsRow s 3 1 (.slice y.ao y.an y.ac) y.an (vals y.c.act)
  rn : y.nn * 16 ≤ 140737488351232
  rs : y.sn * 24 ≤ 140737488351232
  ra : y.an * 8 ≤ 140737488351232
theorem CcO.at_ {s : Nat} {W : World} {y : Cc} (h : CcO s W y) : y.At W :=
  ⟨⟨by have := h.names.1; simpa [svals] using this, h.rn, strs_of_owns h.names⟩, blks_own h.slabs h.rs, nums_of_owns h.act h.ra⟩
theorem CcO.below {s : Nat} {W W' : World} {y : Cc} (h : CcO s W y) (hb : Below W.heap.size W W') : CcO s W' y :=
  ⟨owns_below h.names hb (Nat.le_refl _), owns_below h.slabs hb (Nat.le_refl _), owns_below h.act hb (Nat.le_refl _), h.rn, h.rs, h.ra⟩
theorem owns_butL {w w' : World} {s b : Nat} {e : TypeId} {ao : Option Addr} {n cap size : Nat} {xs : List Value} (h : w.ownsRow s e size (.slice ao n cap) n xs) (hb : But b w w') (hne : b ∉ blkA ao) : w'.ownsRow s e size (.slice ao n cap) n xs := by
  refine h.kept (row := some b) ⟨hb.os, hb.tape, hb.output, hb.size, fun k hk hk2 => hb.block k hk (by intro g; exact hk2 (by rw [g]))⟩ ?_
  cases ao with
  | none => exact .inl rfl
  | some a => exact .inr (by simp [Value.ownBlock]; intro e; exact hne (mem_blkA.2 ⟨a, rfl, e⟩))
theorem CcO.but {s b : Nat} {W W' : World} {y : Cc} (h : CcO s W y) (hb : But b W W') (hne : b ∉ y.blks) : CcO s W' y := by
  unfold Kit.Cc.blks at hne
  simp only [List.mem_append, not_or] at hne
  exact ⟨owns_butL h.names hb hne.1, owns_butL h.slabs hb hne.2.1, owns_butL h.act hb hne.2.2, h.rn, h.rs, h.ra⟩
theorem owns_lt {w : World} {s : Nat} {e : TypeId} {ao : Option Addr} {n cap size : Nat} {xs : List Value} (h : w.ownsRow s e size (.slice ao n cap) n xs) {b : Nat} (hb : b ∈ blkA ao) : s ≤ b ∧ b < w.heap.size := by
  obtain ⟨a, rfl, rfl⟩ := mem_blkA.1 hb
  rcases h.2 with ⟨h', _⟩ | ⟨g, cap', cur, h', hB, hg, _⟩
  · cases h'
  · simp only [Value.slice.injEq, Option.some.injEq] at h'
    obtain ⟨rfl, _⟩ := h'
    exact ⟨hB, (Array.getElem?_eq_some_iff.1 hg).1⟩
theorem CcO.lt {s : Nat} {W : World} {y : Cc} (h : CcO s W y) {b : Nat} (hb : b ∈ y.blks) : s ≤ b ∧ b < W.heap.size := by
  unfold Kit.Cc.blks at hb
  simp only [List.mem_append] at hb
  rcases hb with hb | hb | hb
  · exact owns_lt h.names hb
  · exact owns_lt h.slabs hb
  · exact owns_lt h.act hb

/-- A system whose rows the call owns, but for its heap; each lies in a block of its own, the heap in none of them. -/
structure SyO (s : Nat) (W : World) (y : Sy) : Prop where
  words : W.ownsRow s 3 1 (.slice y.wo y.wn y.wc) y.wn (vals y.words)
  caches : W.ownsRow s 45 6 (.slice y.co y.cn y.cc) y.cn (c6 (y.cs.map Cc.q))
  parts : ∀ c ∈ y.cs, CcO s W c
  heap : y.h.At W
  dis : y.blks.Nodup
  off : ∀ b ∈ y.blks, OffH b y.h
  rw : y.wn * 8 ≤ 140737488351232
  rc : y.cn * 96 ≤ 140737488351232
theorem SyO.at_ {s : Nat} {W : World} {y : Sy} (h : SyO s W y) : y.At W :=
  ⟨nums_of_owns h.words h.rw, h.heap, ⟨by have := c6owns_len h.caches; simpa using this, h.rc, c6_of_owns h.caches, fun c hc => (h.parts c hc).at_⟩⟩
theorem SyO.below {s : Nat} {W W' : World} {y : Sy} (h : SyO s W y) (hb : Below W.heap.size W W') : SyO s W' y :=
  ⟨owns_below h.words hb (Nat.le_refl _), owns_below h.caches hb (Nat.le_refl _), fun c hc => (h.parts c hc).below hb, h.heap.below hb, h.dis, h.off, h.rw, h.rc⟩

/-- In the midst of a copy: the words are there, k caches are. -/
structure ScI (s : Nat) (W : World) (x : Sy) (k g1 g2 : Nat) (M : List Value) (y : Hx) (ds : List Cc) : Prop where
  words : W.heap[g1]? = some (.cells (vals x.words).toArray 3 (0, 0))
  row : W.heap[g2]? = some (.cells (c6 (ds.map Cc.q) ++ M.drop (k * 6)).toArray 45 (0, 0))
  heap : y.At W
  parts : ∀ c ∈ ds, CcO s W c
  plain : ds.map (·.c) = (x.cs.take k).map (·.c)
  dis : (ds.flatMap Cc.blks).Nodup
  lo : ∀ b ∈ ds.flatMap Cc.blks, g1 < b ∧ g2 < b ∧ OffH b y
  o1 : OffH g1 y
  o2 : OffH g2 y
theorem ScI.below {s k g1 g2 : Nat} {W W' : World} {x : Sy} {M : List Value} {y : Hx} {ds : List Cc} (h : ScI s W x k g1 g2 M y ds) (hb : Below W.heap.size W W') : ScI s W' x k g1 g2 M y ds :=
  ⟨row_next h.words hb, row_next h.row hb, h.heap.below hb, fun c hc => (h.parts c hc).below hb, h.plain, h.dis, h.lo, h.o1, h.o2⟩
theorem ScI.but {s k g1 g2 b : Nat} {W W' : World} {x : Sy} {M : List Value} {y : Hx} {ds : List Cc} (h : ScI s W x k g1 g2 M y ds) (hb : But b W W') (h1 : g1 ≠ b) (h2 : g2 ≠ b) (ho : OffH b y) (hd : b ∉ ds.flatMap Cc.blks) : ScI s W' x k g1 g2 M y ds :=
  ⟨But.row hb h.words h1, But.row hb h.row h2, ho.but h.heap hb, fun c hc => (h.parts c hc).but hb (fun hm => hd (List.mem_flatMap.2 ⟨c, hc, hm⟩)), h.plain, h.dis, h.lo, h.o1, h.o2⟩
theorem ScI.len {s k g1 g2 : Nat} {W : World} {x : Sy} {M : List Value} {y : Hx} {ds : List Cc} (h : ScI s W x k g1 g2 M y ds) (hk : k ≤ x.cs.length) : ds.length = k := by
  have := congrArg List.length h.plain
  rw [List.length_map, List.length_map, List.length_take] at this
  omega
/-- A store into a row at its elements k. -/
theorem row_storeV {P : Program} {t tt : TypeId} {b off n : Nat} {v : Value} {cs : List Value} {w : World} (hs : szB P t = some n) (hn : v.cells.size = n) (hrow : w.heap[b]? = some (.cells cs.toArray tt (0, 0))) (hf : off + n ≤ cs.length) (h1 : (v.cells.toList.all (·.oneCell')) = true) :
    ∃ W, (storeVar t ⟨b, off, none⟩ v).run P w = .ok () W ∧ But b w W ∧ W.heap[b]? = some (.cells (setL cs off v.cells.toList).toArray tt (0, 0)) := by
  unfold szB at hs
  simp only [Option.map_eq_some_iff] at hs
  obtain ⟨i, hi, rfl⟩ := hs
  obtain ⟨W, hr, hb, hw⟩ := row_store (P := P) (vs := v.cells.toList) (o := off) hrow (Nat.le_trans (Nat.add_le_add_left (Nat.le_of_eq (by simpa using hn)) _) hf) (fun u hu => List.all_eq_true.1 h1 u hu)
  exact ⟨W, run_storeVar' (a := ⟨b, off, none⟩) hi hn hr, hb, hw⟩
theorem setL_next {A M vs : List Value} {k n z : Nat} (hA : A.length = k * z) (hM : M.length = n * z) (hv : vs.length = z) (hk : k < n) : setL (A ++ M.drop (k * z)) (k * z) vs = (A ++ vs) ++ M.drop ((k + 1) * z) := by
  have h1 : (k + 1) * z ≤ n * z := Nat.mul_le_mul_right z hk
  have e1 : (k + 1) * z = k * z + z := Nat.succ_mul k z
  rw [setL_eq _ _ _ (by rw [List.length_append, List.length_drop, hA, hM, hv]; omega), hv]
  have a1 : (A ++ M.drop (k * z)).take (k * z) = A := by rw [← hA]; simp
  have a2 : (A ++ M.drop (k * z)).drop (k * z + z) = M.drop ((k + 1) * z) := by
    rw [List.drop_append, List.drop_eq_nil_of_le (by omega), List.nil_append, List.drop_drop, hA]
    congr 1
    omega
  rw [a1, a2]
/-- One more cache is there. -/
theorem ScI.next {s k g1 g2 : Nat} {W W' : World} {x : Sy} {M : List Value} {y : Hx} {ds : List Cc} (h : ScI s W x k g1 g2 M y ds) (hM : M.length = x.cn * 6) (hl : x.cs.length = x.cn) (hk : k < x.cn) {c : Cc} (hc : CcO s W c) (hp : c.c = (x.cs.getD k .zero).c) (hn : c.blks.Nodup) (hlo : ∀ b ∈ c.blks, g1 < b ∧ g2 < b ∧ OffH b y ∧ b ∉ ds.flatMap Cc.blks) (hne : g1 ≠ g2)
    (hb : But g2 W W') (hrow : W'.heap[g2]? = some (.cells (setL (c6 (ds.map Cc.q) ++ M.drop (k * 6)) (k * 6) c.q.cells).toArray 45 (0, 0))) : ScI s W' x (k + 1) g1 g2 M y (ds ++ [c]) := by
  have hlen := h.len (by omega)
  have hd : g2 ∉ ds.flatMap Cc.blks := fun hm => by have := (h.lo _ hm).2.1; omega
  have hd2 : g2 ∉ c.blks := fun hm => by have := (hlo _ hm).2.1; omega
  refine ⟨But.row hb h.words hne, ?_, h.o2.but h.heap hb, fun d hd' => ?_, ?_, ?_, fun b hbm => ?_, h.o1, h.o2⟩
  · rw [hrow, setL_next (by rw [length_c6, List.length_map, hlen]) hM rfl hk, List.map_append, c6_append]
    rfl
  · rcases List.mem_append.1 hd' with hd' | hd'
    · exact (h.parts d hd').but hb (fun hm => hd (List.mem_flatMap.2 ⟨d, hd', hm⟩))
    · rw [List.mem_singleton] at hd'; subst hd'; exact hc.but hb hd2
  · rw [List.map_append, h.plain, List.take_add_one, List.map_append, List.getElem?_eq_getElem (by omega)]
    simp [hp, List.getD_eq_getElem?_getD, show k < x.cs.length by omega]
  · rw [List.flatMap_append, List.nodup_append]
    refine ⟨h.dis, by simpa using hn, fun a ha b hb' e => ?_⟩
    subst e
    exact (hlo a (by simpa using hb')).2.2.2 ha
  · rw [List.flatMap_append, List.mem_append] at hbm
    rcases hbm with hbm | hbm
    · exact h.lo b hbm
    · have := hlo b (by simpa using hbm); exact ⟨this.1, this.2.1, this.2.2.1⟩
/-- All are there. -/
theorem ScI.done {s g1 g2 : Nat} {W : World} {x : Sy} {M : List Value} {y : Hx} {ds : List Cc} (h : ScI s W x x.cn g1 g2 M y ds) (hM : M.length = x.cn * 6) (hl : x.cs.length = x.cn) (hw : x.words.length = x.wn) (h1 : s ≤ g1) (h2 : s ≤ g2) (hne : g1 ≠ g2) (rw' : x.wn * 8 ≤ 140737488351232) (rc : x.cn * 96 ≤ 140737488351232) :
    SyO s W ⟨x.words, some ⟨g1, 0, none⟩, x.wn, x.wn, y, ds, some ⟨g2, 0, none⟩, x.cn, x.cn⟩ ∧ ds.map (·.c) = x.cs.map (·.c) := by
  have hlen := h.len (by omega)
  have hrow := h.row
  rw [List.drop_eq_nil_of_le (by omega), List.append_nil] at hrow
  have hb1 : ∀ b, b ∈ ds.flatMap Cc.blks → g1 ≠ b ∧ g2 ≠ b := fun b hb => by have := h.lo b hb; omega
  refine ⟨⟨owns_of_row (n := x.wn) h.words h1 (by simp [vals, hw]) (by unfold maxLen; omega), owns_of_row (n := x.cn) hrow h2 (by rw [length_c6, List.length_map, hlen]) (by unfold maxLen; omega), h.parts, h.heap, ?_, fun b hb => ?_, rw', rc⟩, ?_⟩
  · show ([g1] ++ ([g2] ++ ds.flatMap Cc.blks)).Nodup
    rw [List.singleton_append, List.singleton_append, List.nodup_cons, List.nodup_cons]
    refine ⟨fun hm => ?_, fun hm => (hb1 _ hm).2 rfl, h.dis⟩
    rcases List.mem_cons.1 hm with e | hm
    · exact hne e
    · exact (hb1 _ hm).1 rfl
  · have hb' : b ∈ [g1] ++ ([g2] ++ ds.flatMap Cc.blks) := hb
    rw [List.singleton_append, List.singleton_append] at hb'
    rcases List.mem_cons.1 hb' with rfl | hb'
    · exact h.o1
    · rcases List.mem_cons.1 hb' with rfl | hb'
      · exact h.o2
      · exact (h.lo b hb').2.2
  · rw [h.plain, ← hl, List.take_length]

end Go.Proofs.Ytnijjpakpphhhaa

/-
  OWN TEXT. Contracts in the form that Sx's laws ask.
-/
namespace Go.Proofs.Ytnijjpakpphhhaa
open Go Go.RowKit Go.Proofs.Ytnijjpakpphhhaa.Kit

theorem c_iff {g : FuncId} {args : Array Value} {w : World} {p : Prop} [Decidable p] (h : Calls Try.prog g args w fun e w' => RetIff e p ∧ Below w.heap.size w w') : Calls Try.prog g args w fun e w' => e = .returned (.bool (decide p)) ∧ Below w.heap.size w w' := by
  refine h.mono ?_
  rintro e w' ⟨⟨r, rfl, hr⟩, hb⟩
  refine ⟨?_, hb⟩
  congr 2
  cases r with
  | true => exact (decide_eq_true (hr.1 rfl)).symm
  | false => exact (decide_eq_false (fun hp => by have := hr.2 hp; cases this)).symm
theorem c_same {g : FuncId} {args : Array Value} {w : World} {v : Value} (h : Calls Try.prog g args w fun e w' => e = .returned v ∧ w = w') : Calls Try.prog g args w fun e w' => e = .returned v ∧ Below w.heap.size w w' := by
  refine h.mono ?_
  rintro e w' ⟨rfl, rfl⟩
  exact ⟨rfl, Below.refl _ _⟩

end Go.Proofs.Ytnijjpakpphhhaa

/-
  OWN TEXT. Contract of the code: slab.copyCache (written by sxsc.py).
-/
namespace Go.Proofs.Ytnijjpakpphhhaa
open Go Go.RowKit Go.Proofs.Ytnijjpakpphhhaa.Kit

set_option maxRecDepth 10000 in
set_option maxHeartbeats 4000000 in
theorem slCopyCache_c (w : World) (x : Cc) (hx : x.At w) :
    Calls Try.prog 20 #[.agg #[.slice x.no x.nn x.nc, .int .i64 x.c.size, .int .i64 x.c.per, .int .i64 x.c.order, .slice x.so x.sn x.sc, .slice x.ao x.an x.ac]] w fun e w' => ∃ g1 g2 g3, e = .returned (.agg #[.slice (some ⟨g1, 0, none⟩) x.nn x.nn, .int .i64 x.c.size, .int .i64 x.c.per, .int .i64 x.c.order, .slice (some ⟨g2, 0, none⟩) x.sn x.sn, .slice (some ⟨g3, 0, none⟩) x.an x.an]) ∧ w.heap.size ≤ g1 ∧ g1 < g2 ∧ g2 < g3 ∧ g3 < w'.heap.size ∧
      w'.heap[g1]? = some (.cells (svals x.c.names).toArray 9 (0, 0)) ∧ w'.heap[g2]? = some (.cells (bvals x.c.slabs).toArray 49 (0, 0)) ∧ w'.heap[g3]? = some (.cells (vals x.c.act).toArray 3 (0, 0)) ∧ Below w.heap.size w w' := by
  have B0 := Below.refl w.heap.size w
  refine sx_enter (args := [_]) 36 Try.func20 rfl rfl rfl ?_
  intro A f
  refine wp_seq ?_
  refine sx_list ?_
  refine l_box f rfl rfl rfl rfl rfl ?_; clear f A; intro b1 W2 eb1 hb3 rb1 A f; dsimp only [Value.cells] at rb1
  have z_B0_b1 := B0.size; rw [eb1] at z_B0_b1
  replace B0 := Below.next B0 hb3
  refine l_alloc (z := .agg #[.slice none 0 0, .int .i64 0, .int .i64 0, .int .i64 0, .slice none 0 0, .slice none 0 0]) f rfl rfl rfl rfl (by kernel_rfl) ?_; clear f A; intro b4 W5 eb4 hb6 rb4 A f; dsimp only [Value.cells] at rb4
  have o_b1_b4 : b1 < b4 := by have := row_lt rb1; omega
  have z_B0_b4 := B0.size; rw [eb4] at z_B0_b4
  replace B0 := Below.next B0 hb6; replace rb1 := row_next rb1 hb6
  refine wpList_nil ?_
  refine x_tn ?_
  refine wp_seq ?_
  refine sx_list ?_
  refine l_do f rfl rfl rfl (y_loadN (vs := [_, _, _, _, _, _]) rfl rfl (ag rfl) rfl (rowls (rowq rb1) _ _ ⟨rfl, rfl, rfl, rfl, rfl, rfl, trivial⟩)) ?_; clear f A; intro A f
  refine l_as (z := .agg #[.slice none 0 0, .int .i64 0, .int .i64 0, .int .i64 0, .slice none 0 0, .slice none 0 0]) f rfl rfl rfl rfl (by kernel_rfl) rfl rfl (fun _ => rfl) (fun _ => rfl) rfl (by intro u hu; simp [Value.cells] at hu; rcases hu with rfl | rfl | rfl | rfl | rfl | rfl <;> rfl) ?_; clear f A; intro b7 W8 eb7 hb9 rb7 A f
  dsimp only [Value.cells] at rb7
  have hpb7 := hb9
  have o_b1_b7 : b1 < b7 := by have := row_lt rb1; omega
  have o_b4_b7 : b4 < b7 := by have := row_lt rb4; omega
  have z_B0_b7 := B0.size; rw [eb7] at z_B0_b7
  replace B0 := Below.next B0 hb9; replace rb1 := row_next rb1 hb9; replace rb4 := row_next rb4 hb9
  refine wpList_nil ?_
  refine x_tn ?_
  refine wp_seq ?_
  refine sx_list ?_
  refine l_do f rfl rfl rfl (y_field rfl rfl (fo rfl)) ?_; clear f A; intro A f
  refine l_do f rfl rfl rfl (y_load1 rfl rfl (ag rfl) (rowl (rowq rb1) rfl)) ?_; clear f A; intro A f
  refine l_do f rfl rfl rfl (y_len rfl rfl (sl rfl)) ?_; clear f A; intro A f
  refine l_make f rfl rfl rfl rfl rfl rfl (makes_strs hx.names.reach) ?_; clear f A; intro b10 W11 Mb10 eb10 hb12 hlb10 rb10 A f
  have o_b1_b10 : b1 < b10 := by have := row_lt rb1; omega
  have o_b4_b10 : b4 < b10 := by have := row_lt rb4; omega
  have o_b7_b10 : b7 < b10 := by have := row_lt rb7; omega
  have z_B0_b10 := B0.size; rw [eb10] at z_B0_b10
  replace B0 := Below.next B0 hb12; replace rb1 := row_next rb1 hb12; replace rb4 := row_next rb4 hb12; replace rb7 := row_next rb7 hb12
  refine l_do f rfl rfl rfl (y_field rfl rfl (fo rfl)) ?_; clear f A; intro A f
  refine l_store f rfl rfl rfl rfl rfl rb7 (sz rfl) rfl (Nat.le_of_ble_eq_true rfl) rfl ?_
  clear rb7; intro W13 hb14 rb7; dsimp only [setL, over, Value.cells] at rb7; replace B0 := Below.thenBut B0 hb14 (by omega); replace rb1 := But.row hb14 rb1 (by omega); replace rb4 := But.row hb14 rb4 (by omega); replace rb10 := But.row hb14 rb10 (by omega)
  refine wpList_nil ?_
  refine x_tn ?_
  refine wp_seq ?_
  refine sx_list ?_
  refine l_do f rfl rfl rfl (y_field rfl rfl (fo rfl)) ?_; clear f A; intro A f
  refine l_do f rfl rfl rfl (y_load1 rfl rfl (ag rfl) (rowl (rowq rb1) rfl)) ?_; clear f A; intro A f
  refine l_do f rfl rfl rfl (y_len rfl rfl (sl rfl)) ?_; clear f A; intro A f
  refine l_make f rfl rfl rfl rfl rfl rfl (makes_slabs hx.slabs.reach) ?_; clear f A; intro b15 W16 Mb15 eb15 hb17 hlb15 rb15 A f
  have o_b1_b15 : b1 < b15 := by have := row_lt rb1; omega
  have o_b4_b15 : b4 < b15 := by have := row_lt rb4; omega
  have o_b7_b15 : b7 < b15 := by have := row_lt rb7; omega
  have o_b10_b15 : b10 < b15 := by have := row_lt rb10; omega
  have z_B0_b15 := B0.size; rw [eb15] at z_B0_b15
  replace B0 := Below.next B0 hb17; replace rb1 := row_next rb1 hb17; replace rb4 := row_next rb4 hb17; replace rb7 := row_next rb7 hb17; replace rb10 := row_next rb10 hb17
  refine l_do f rfl rfl rfl (y_field rfl rfl (fo rfl)) ?_; clear f A; intro A f
  refine l_store f rfl rfl rfl rfl rfl rb7 (sz rfl) rfl (Nat.le_of_ble_eq_true rfl) rfl ?_
  clear rb7; intro W18 hb19 rb7; dsimp only [setL, over, Value.cells] at rb7; replace B0 := Below.thenBut B0 hb19 (by omega); replace rb1 := But.row hb19 rb1 (by omega); replace rb4 := But.row hb19 rb4 (by omega); replace rb10 := But.row hb19 rb10 (by omega); replace rb15 := But.row hb19 rb15 (by omega)
  refine wpList_nil ?_
  refine x_tn ?_
  refine wp_seq ?_
  refine sx_list ?_
  refine l_do f rfl rfl rfl (y_field rfl rfl (fo rfl)) ?_; clear f A; intro A f
  refine l_do f rfl rfl rfl (y_load1 rfl rfl (ag rfl) (rowl (rowq rb1) rfl)) ?_; clear f A; intro A f
  refine l_do f rfl rfl rfl (y_len rfl rfl (sl rfl)) ?_; clear f A; intro A f
  refine l_make f rfl rfl rfl rfl rfl rfl (makes_ints hx.act.reach) ?_; clear f A; intro b20 W21 Mb20 eb20 hb22 hlb20 rb20 A f
  have o_b1_b20 : b1 < b20 := by have := row_lt rb1; omega
  have o_b4_b20 : b4 < b20 := by have := row_lt rb4; omega
  have o_b7_b20 : b7 < b20 := by have := row_lt rb7; omega
  have o_b10_b20 : b10 < b20 := by have := row_lt rb10; omega
  have o_b15_b20 : b15 < b20 := by have := row_lt rb15; omega
  have z_B0_b20 := B0.size; rw [eb20] at z_B0_b20
  replace B0 := Below.next B0 hb22; replace rb1 := row_next rb1 hb22; replace rb4 := row_next rb4 hb22; replace rb7 := row_next rb7 hb22; replace rb10 := row_next rb10 hb22; replace rb15 := row_next rb15 hb22
  refine l_do f rfl rfl rfl (y_field rfl rfl (fo rfl)) ?_; clear f A; intro A f
  refine l_store f rfl rfl rfl rfl rfl rb7 (sz rfl) rfl (Nat.le_of_ble_eq_true rfl) rfl ?_
  clear rb7; intro W23 hb24 rb7; dsimp only [setL, over, Value.cells] at rb7; replace B0 := Below.thenBut B0 hb24 (by omega); replace rb1 := But.row hb24 rb1 (by omega); replace rb4 := But.row hb24 rb4 (by omega); replace rb10 := But.row hb24 rb10 (by omega); replace rb15 := But.row hb24 rb15 (by omega); replace rb20 := But.row hb24 rb20 (by omega)
  refine wpList_nil ?_
  refine x_tn ?_
  refine wp_seq ?_
  refine sx_list ?_
  have hx0 := hx.below B0
  refine l_do f rfl rfl rfl (y_field rfl rfl (fo rfl)) ?_; clear f A; intro A f
  refine l_do f rfl rfl rfl (y_load1 rfl rfl (ag rfl) (rowl (rowq rb7) rfl)) ?_; clear f A; intro A f
  refine l_do f rfl rfl rfl (y_field rfl rfl (fo rfl)) ?_; clear f A; intro A f
  refine l_do f rfl rfl rfl (y_load1 rfl rfl (ag rfl) (rowl (rowq rb1) rfl)) ?_; clear f A; intro A f
  refine l_opR (R := fun v W => v = goInt x.nn ∧ But b10 W23 W ∧ W.heap[b10]? = some (.cells (svals x.c.names).toArray 9 (0, 0))) f rfl rfl rfl (by obtain ⟨W, k1, k2, k3⟩ := copy_run (P := Try.prog) (dT := 42) (sT := 42) (ty := 3) Try.underlying42 (sz rfl) rb10 hlb10 (by simp [svals, hx0.names.len]) (fun h0 => strs_src (hx.below B0).names h0) (svals_one _); exact ⟨_, W, copy_exec f rfl rfl rfl k1, rfl, k2, k3⟩) ?_
  clear f A rb10; rintro _ W25 ⟨rfl, hb26, rb10⟩ A f
  replace B0 := Below.thenBut B0 hb26 (by omega); replace rb1 := But.row hb26 rb1 (by omega); replace rb4 := But.row hb26 rb4 (by omega); replace rb7 := But.row hb26 rb7 (by omega); replace rb15 := But.row hb26 rb15 (by omega); replace rb20 := But.row hb26 rb20 (by omega)
  refine wpList_nil ?_
  refine x_tn ?_
  refine wp_seq ?_
  refine sx_list ?_
  refine l_do f rfl rfl rfl (y_field rfl rfl (fo rfl)) ?_; clear f A; intro A f
  refine l_do f rfl rfl rfl (y_load1 rfl rfl (ag rfl) (rowl (rowq rb7) rfl)) ?_; clear f A; intro A f
  refine l_do f rfl rfl rfl (y_field rfl rfl (fo rfl)) ?_; clear f A; intro A f
  refine l_do f rfl rfl rfl (y_load1 rfl rfl (ag rfl) (rowl (rowq rb1) rfl)) ?_; clear f A; intro A f
  refine l_opR (R := fun v W => v = goInt x.sn ∧ But b15 W25 W ∧ W.heap[b15]? = some (.cells (bvals x.c.slabs).toArray 49 (0, 0))) f rfl rfl rfl (by obtain ⟨W, k1, k2, k3⟩ := copy_run (P := Try.prog) (dT := 43) (sT := 43) (ty := 3) Try.underlying43 (sz rfl) rb15 hlb15 (by simp [length_bvals, hx0.slabs.len]) (fun h0 => blks_src (hx.below B0).slabs h0) (bvals_oneCell _); exact ⟨_, W, copy_exec f rfl rfl rfl k1, rfl, k2, k3⟩) ?_
  clear f A rb15; rintro _ W27 ⟨rfl, hb28, rb15⟩ A f
  replace B0 := Below.thenBut B0 hb28 (by omega); replace rb1 := But.row hb28 rb1 (by omega); replace rb4 := But.row hb28 rb4 (by omega); replace rb7 := But.row hb28 rb7 (by omega); replace rb10 := But.row hb28 rb10 (by omega); replace rb20 := But.row hb28 rb20 (by omega)
  refine wpList_nil ?_
  refine x_tn ?_
  refine wp_seq ?_
  refine sx_list ?_
  refine l_do f rfl rfl rfl (y_field rfl rfl (fo rfl)) ?_; clear f A; intro A f
  refine l_do f rfl rfl rfl (y_load1 rfl rfl (ag rfl) (rowl (rowq rb7) rfl)) ?_; clear f A; intro A f
  refine l_do f rfl rfl rfl (y_field rfl rfl (fo rfl)) ?_; clear f A; intro A f
  refine l_do f rfl rfl rfl (y_load1 rfl rfl (ag rfl) (rowl (rowq rb1) rfl)) ?_; clear f A; intro A f
  refine l_opR (R := fun v W => v = goInt x.an ∧ But b20 W27 W ∧ W.heap[b20]? = some (.cells (vals x.c.act).toArray 3 (0, 0))) f rfl rfl rfl (by obtain ⟨W, k1, k2, k3⟩ := copy_run (P := Try.prog) (dT := 22) (sT := 22) (ty := 3) Try.underlying22 (sz rfl) rb20 hlb20 (by simp [vals, hx0.act.len]) (fun h0 => nums_src (hx.below B0).act h0) (ints_oneCell .i64 _); exact ⟨_, W, copy_exec f rfl rfl rfl k1, rfl, k2, k3⟩) ?_
  clear f A rb20; rintro _ W29 ⟨rfl, hb30, rb20⟩ A f
  replace B0 := Below.thenBut B0 hb30 (by omega); replace rb1 := But.row hb30 rb1 (by omega); replace rb4 := But.row hb30 rb4 (by omega); replace rb7 := But.row hb30 rb7 (by omega); replace rb10 := But.row hb30 rb10 (by omega); replace rb15 := But.row hb30 rb15 (by omega)
  refine wpList_nil ?_
  refine x_tn ?_
  refine wp_seq ?_
  refine sx_list ?_
  refine l_do f rfl rfl rfl (y_loadN (vs := [_, _, _, _, _, _]) rfl rfl (ag rfl) rfl (rowls (rowq rb7) _ _ ⟨rfl, rfl, rfl, rfl, rfl, rfl, trivial⟩)) ?_; clear f A; intro A f
  refine l_store f rfl rfl rfl rfl rfl rb4 (sz rfl) rfl (Nat.le_of_ble_eq_true rfl) rfl ?_
  clear rb4; intro W31 hb32 rb4; dsimp only [setL, over, Value.cells] at rb4; replace B0 := Below.thenBut B0 hb32 (by omega); replace rb1 := But.row hb32 rb1 (by omega); replace rb7 := But.row hb32 rb7 (by omega); replace rb10 := But.row hb32 rb10 (by omega); replace rb15 := But.row hb32 rb15 (by omega); replace rb20 := But.row hb32 rb20 (by omega)
  refine wpList_nil ?_
  refine x_tn ?_
  refine wp_ret ?_
  refine x_retc f rfl rfl (ag rfl) rb4 rfl ?_
  -- return 0: 
  exact ⟨b10, b15, b20, rfl, by omega, by omega, by omega, row_lt rb20, rb10, rb15, rb20, B0⟩


end Go.Proofs.Ytnijjpakpphhhaa
