/-
  OWN TEXT. A heap of pages whose rows the call owns; what is there in the midst of a copy.
-/
import Derived.Test.YtmpalonhckafjaaHBase
import Derived.Test.YtmpalonhckafjaaZcCopy
import Derived.Test.YtmpalonhckafjaaAppK
namespace Go.Proofs.Ytmpalonhckafjaa
open Go Go.RowKit Go.Proofs.Ytmpalonhckafjaa.Kit

/-- The address lies in none of three blocks. -/
def Off3 (p q r : Nat) (ao : Option Addr) : Prop := ∀ a, ao = some a → a.block ≠ p ∧ a.block ≠ q ∧ a.block ≠ r

/-- A heap whose rows of zones, lists and blocks the call owns, at gz, gl, gv; what they point to lies elsewhere. -/
structure HOwn (w : World) (B gz gl gv : Nat) (y : Hx) : Prop where
  oz : w.ownsRow B 44 4 (.slice y.zo y.zn y.zc) y.zn (c4 (y.zs.map Zc.q))
  ol : w.ownsRow B 57 4 (.slice y.lo y.ln y.lc) y.ln (c4 (y.ls.map Lc.q))
  ov : w.ownsRow B 63 3 (.slice y.vo y.vn y.vc) y.vn (bvals y.live)
  ez : y.zo = some ⟨gz, 0, none⟩
  el : ∀ a, y.lo = some a → a.block = gl
  ev : ∀ a, y.vo = some a → a.block = gv
  at_ : y.At w
  zl : gz ≠ gl
  zv : gz ≠ gv
  lv : gl ≠ gv
  zoff : ∀ z ∈ y.zs, Off3 gz gl gv z.fo ∧ Off3 gz gl gv z.to_ ∧ Fresh B z.fo ∧ Fresh B z.to_
  loff : ∀ l ∈ y.ls, Off3 gz gl gv l.po ∧ Fresh B l.po ∧ l.pc = l.pn
  moff : Off3 gz gl gv y.mo
  mfresh : Fresh B y.mo
  gzB : B ≤ gz
  glB : B ≤ gl
  gvB : B ≤ gv

/-- Five numbers of blocks, from s on and below t, no two the same. -/
structure Five (s t X gz gm gl gv : Nat) : Prop where
  x1 : s ≤ X
  z1 : s ≤ gz
  m1 : s ≤ gm
  l1 : s ≤ gl
  v1 : s ≤ gv
  x2 : X < t
  z2 : gz < t
  m2 : gm < t
  l2 : gl < t
  v2 : gv < t
  xz : X ≠ gz
  xm : X ≠ gm
  xl : X ≠ gl
  xv : X ≠ gv
  zm : gz ≠ gm
  zl : gz ≠ gl
  zv : gz ≠ gv
  ml : gm ≠ gl
  mv : gm ≠ gv
  lv : gl ≠ gv

/-- What is there in the midst of a copy. -/
structure HcI (W0 : World) (hb : Nat) (h : Hx) (X gz gm gl gv : Nat) (CZ CM CL CV : List Value) (W : World) : Prop where
  b : Below W0.heap.size W0 W
  hin : HBox W hb (.slice h.zo h.zn h.zc) (.slice h.mo h.mn h.mc) (.int .i64 h.cpus) (.slice h.lo h.ln h.lc) (.slice h.vo h.vn h.vc)
  res : HBox W (hb + 1) (.slice none 0 0) (.slice none 0 0) (.int .i64 0) (.slice none 0 0) (.slice none 0 0)
  box : HBox W X (.slice (some ⟨gz, 0, none⟩) h.zn h.zn) (.slice (some ⟨gm, 0, none⟩) h.mn h.mn) (.int .i64 h.cpus) (.slice (some ⟨gl, 0, none⟩) h.ln h.ln) (.slice (some ⟨gv, 0, none⟩) h.vn h.vn)
  rz : W.heap[gz]? = some (.cells CZ.toArray 44 (0, 0))
  rm : W.heap[gm]? = some (.cells CM.toArray 3 (0, 0))
  rl : W.heap[gl]? = some (.cells CL.toArray 57 (0, 0))
  rv : W.heap[gv]? = some (.cells CV.toArray 63 (0, 0))

theorem lt_of_row {W : World} {g : Nat} {o : Obj} (h : W.heap[g]? = some o) : g < W.heap.size := (Array.getElem?_eq_some_iff.1 h).1

section
variable {W0 : World} {hb : Nat} {h : Hx} {X gz gm gl gv : Nat} {CZ CM CL CV : List Value} {W W' : World} {s t : Nat}
theorem HcI.below (I : HcI W0 hb h X gz gm gl gv CZ CM CL CV W) (hB : Below W.heap.size W W') : HcI W0 hb h X gz gm gl gv CZ CM CL CV W' :=
  ⟨I.b.trans (hB.mono I.b.size), I.hin.below hB, I.res.below hB, I.box.below hB, (hB.block _ (lt_of_row I.rz)).trans I.rz, (hB.block _ (lt_of_row I.rm)).trans I.rm, (hB.block _ (lt_of_row I.rl)).trans I.rl, (hB.block _ (lt_of_row I.rv)).trans I.rv⟩
theorem HcI.setZ (I : HcI W0 hb h X gz gm gl gv CZ CM CL CV W) (F : Five s t X gz gm gl gv) (hs : W0.heap.size = hb + 2) (hs' : s = W0.heap.size) (hB : But gz W W') {C : List Value} (hr : W'.heap[gz]? = some (.cells C.toArray 44 (0, 0))) : HcI W0 hb h X gz gm gl gv C CM CL CV W' :=
  ⟨I.b.trans (hB.below (by have := F.z1; omega) I.b.size), I.hin.but hB (by have := F.z1; omega), I.res.but hB (by have := F.z1; omega), I.box.but hB F.xz, hr, (hB.block _ (lt_of_row I.rm) (fun e => F.zm e.symm)).trans I.rm, (hB.block _ (lt_of_row I.rl) (fun e => F.zl e.symm)).trans I.rl, (hB.block _ (lt_of_row I.rv) (fun e => F.zv e.symm)).trans I.rv⟩
theorem HcI.setM (I : HcI W0 hb h X gz gm gl gv CZ CM CL CV W) (F : Five s t X gz gm gl gv) (hs : W0.heap.size = hb + 2) (hs' : s = W0.heap.size) (hB : But gm W W') {C : List Value} (hr : W'.heap[gm]? = some (.cells C.toArray 3 (0, 0))) : HcI W0 hb h X gz gm gl gv CZ C CL CV W' :=
  ⟨I.b.trans (hB.below (by have := F.m1; omega) I.b.size), I.hin.but hB (by have := F.m1; omega), I.res.but hB (by have := F.m1; omega), I.box.but hB F.xm, (hB.block _ (lt_of_row I.rz) F.zm).trans I.rz, hr, (hB.block _ (lt_of_row I.rl) (fun e => F.ml e.symm)).trans I.rl, (hB.block _ (lt_of_row I.rv) (fun e => F.mv e.symm)).trans I.rv⟩
theorem HcI.setL (I : HcI W0 hb h X gz gm gl gv CZ CM CL CV W) (F : Five s t X gz gm gl gv) (hs : W0.heap.size = hb + 2) (hs' : s = W0.heap.size) (hB : But gl W W') {C : List Value} (hr : W'.heap[gl]? = some (.cells C.toArray 57 (0, 0))) : HcI W0 hb h X gz gm gl gv CZ CM C CV W' :=
  ⟨I.b.trans (hB.below (by have := F.l1; omega) I.b.size), I.hin.but hB (by have := F.l1; omega), I.res.but hB (by have := F.l1; omega), I.box.but hB F.xl, (hB.block _ (lt_of_row I.rz) F.zl).trans I.rz, (hB.block _ (lt_of_row I.rm) F.ml).trans I.rm, hr, (hB.block _ (lt_of_row I.rv) (fun e => F.lv e.symm)).trans I.rv⟩
theorem HcI.setV (I : HcI W0 hb h X gz gm gl gv CZ CM CL CV W) (F : Five s t X gz gm gl gv) (hs : W0.heap.size = hb + 2) (hs' : s = W0.heap.size) (hB : But gv W W') {C : List Value} (hr : W'.heap[gv]? = some (.cells C.toArray 63 (0, 0))) : HcI W0 hb h X gz gm gl gv CZ CM CL C W' :=
  ⟨I.b.trans (hB.below (by have := F.v1; omega) I.b.size), I.hin.but hB (by have := F.v1; omega), I.res.but hB (by have := F.v1; omega), I.box.but hB F.xv, (hB.block _ (lt_of_row I.rz) F.zv).trans I.rz, (hB.block _ (lt_of_row I.rm) F.mv).trans I.rm, (hB.block _ (lt_of_row I.rl) F.lv).trans I.rl, hr⟩
end

theorem HcI.newer {W0 : World} {hb : Nat} {h : Hx} {X gz gm gl gv : Nat} {CZ CM CL CV : List Value} {W W' : World} {s t c : Nat} (I : HcI W0 hb h X gz gm gl gv CZ CM CL CV W) (F : Five s t X gz gm gl gv) (hs : W0.heap.size = hb + 2) (hs' : s = W0.heap.size) (hB : But c W W') (hc : t ≤ c) : HcI W0 hb h X gz gm gl gv CZ CM CL CV W' :=
  ⟨I.b.trans (hB.below (by have := F.z1; have := F.z2; omega) I.b.size), I.hin.but hB (by have := F.z1; have := F.z2; omega), I.res.but hB (by have := F.z1; have := F.z2; omega), I.box.but hB (by have := F.x2; omega), (hB.block _ (lt_of_row I.rz) (by have := F.z2; omega)).trans I.rz, (hB.block _ (lt_of_row I.rm) (by have := F.m2; omega)).trans I.rm, (hB.block _ (lt_of_row I.rl) (by have := F.l2; omega)).trans I.rl, (hB.block _ (lt_of_row I.rv) (by have := F.v2; omega)).trans I.rv⟩
theorem But.then_new {b c : Nat} {w w' w'' : World} (h : But b w w') (k : But c w' w'') (hc : w.heap.size ≤ c) : But b w w'' :=
  ⟨k.os.trans h.os, k.tape.trans h.tape, k.output.trans h.output, Nat.le_trans h.size k.size, fun i hi hb => (k.block i (Nat.lt_of_lt_of_le hi h.size) (by omega)).trans (h.block i hi hb)⟩

/-- Four stores into a row. -/
theorem row_set4 {W : World} {g : Nat} {t : TypeId} {L : List Value} (h : W.heap[g]? = some (.cells L.toArray t (0, 0))) (i : Nat) (a b c d : Value) :
    ((((W.setCell ⟨g, i, none⟩ a).setCell ⟨g, i + 1, none⟩ b).setCell ⟨g, i + 2, none⟩ c).setCell ⟨g, i + 3, none⟩ d).heap[g]? = some (.cells ((((L.set i a).set (i + 1) b).set (i + 2) c).set (i + 3) d).toArray t (0, 0)) := by
  have h1 : (W.setCell ⟨g, i, none⟩ a).heap[g]? = some (.cells (L.toArray.setIfInBounds i a) t (0, 0)) := heap_setCell_same _ _ _ _ _ _ h
  have h2 : ((W.setCell ⟨g, i, none⟩ a).setCell ⟨g, i + 1, none⟩ b).heap[g]? = some (.cells ((L.toArray.setIfInBounds i a).setIfInBounds (i + 1) b) t (0, 0)) := heap_setCell_same _ _ _ _ _ _ h1
  have h3 : (((W.setCell ⟨g, i, none⟩ a).setCell ⟨g, i + 1, none⟩ b).setCell ⟨g, i + 2, none⟩ c).heap[g]? = some (.cells (((L.toArray.setIfInBounds i a).setIfInBounds (i + 1) b).setIfInBounds (i + 2) c) t (0, 0)) := heap_setCell_same _ _ _ _ _ _ h2
  have h4 : ((((W.setCell ⟨g, i, none⟩ a).setCell ⟨g, i + 1, none⟩ b).setCell ⟨g, i + 2, none⟩ c).setCell ⟨g, i + 3, none⟩ d).heap[g]? = some (.cells ((((L.toArray.setIfInBounds i a).setIfInBounds (i + 1) b).setIfInBounds (i + 2) c).setIfInBounds (i + 3) d) t (0, 0)) := heap_setCell_same _ _ _ _ _ _ h3
  simpa using h4
theorem row_set1 {W : World} {g : Nat} {t : TypeId} {L : List Value} (h : W.heap[g]? = some (.cells L.toArray t (0, 0))) (i : Nat) (a : Value) : (W.setCell ⟨g, i, none⟩ a).heap[g]? = some (.cells (L.set i a).toArray t (0, 0)) := by
  have h1 : (W.setCell ⟨g, i, none⟩ a).heap[g]? = some (.cells (L.toArray.setIfInBounds i a) t (0, 0)) := heap_setCell_same _ _ _ _ _ _ h
  simpa using h1
theorem but_set4 (W : World) (g i : Nat) (a b c d : Value) : But g W ((((W.setCell ⟨g, i, none⟩ a).setCell ⟨g, i + 1, none⟩ b).setCell ⟨g, i + 2, none⟩ c).setCell ⟨g, i + 3, none⟩ d) :=
  ((((But.refl g W).setCell a).setCell b).setCell c).setCell d

theorem take_set4 {L A : List Value} {k n : Nat} (hl : L.length = n * 4) (hk : k < n) (ht : L.take (k * 4) = A) (a b c d : Value) :
    ((((L.set (k * 4) a).set (k * 4 + 1) b).set (k * 4 + 2) c).set (k * 4 + 3) d).take ((k + 1) * 4) = A ++ [a, b, c, d] := by
  subst ht
  apply List.ext_getElem?
  intro i
  rw [List.getElem?_take]
  by_cases h : i < (k + 1) * 4
  · rw [if_pos h]
    by_cases h0 : i < k * 4
    · rw [List.getElem?_append_left (by simp; omega), List.getElem?_take, if_pos h0]
      rw [List.getElem?_set_ne (by omega), List.getElem?_set_ne (by omega), List.getElem?_set_ne (by omega), List.getElem?_set_ne (by omega)]
    · rw [List.getElem?_append_right (by simp; omega)]
      have hlen : (L.take (k * 4)).length = k * 4 := by simp; omega
      rw [hlen]
      rcases (show i = k * 4 ∨ i = k * 4 + 1 ∨ i = k * 4 + 2 ∨ i = k * 4 + 3 by omega) with rfl | rfl | rfl | rfl
      · rw [List.getElem?_set_ne (by omega), List.getElem?_set_ne (by omega), List.getElem?_set_ne (by omega), List.getElem?_set_self (by omega)]
        simp
      · rw [List.getElem?_set_ne (by omega), List.getElem?_set_ne (by omega), List.getElem?_set_self (by simp; omega)]
        simp [show k * 4 + 1 - k * 4 = 1 by omega]
      · rw [List.getElem?_set_ne (by omega), List.getElem?_set_self (by simp; omega)]
        simp [show k * 4 + 2 - k * 4 = 2 by omega]
      · rw [List.getElem?_set_self (by simp; omega)]
        simp [show k * 4 + 3 - k * 4 = 3 by omega]
  · rw [if_neg h, List.getElem?_eq_none (by simp; omega)]

theorem row_res4 {W : World} {g : Nat} {t : TypeId} {L : List Value} {n k : Nat} (h : W.heap[g]? = some (.cells L.toArray t (0, 0))) (hl : L.length = n * 4) (hk : k < n) :
    (∃ v, W.cell? ⟨g, k * 4, none⟩ = some v) ∧ (∃ v, W.cell? ⟨g, k * 4 + 1, none⟩ = some v) ∧ (∃ v, W.cell? ⟨g, k * 4 + 2, none⟩ = some v) ∧ (∃ v, W.cell? ⟨g, k * 4 + 3, none⟩ = some v) ∧ ∀ j, W.frozen? ⟨g, j, none⟩ = false := by
  have hc : ∀ j, j < L.length → ∃ v, W.cell? ⟨g, j, none⟩ = some v := fun j hj => ⟨L[j], by rw [cell_of_row _ _ _ _ _ _ h]; simp [hj]⟩
  exact ⟨hc _ (by omega), hc _ (by omega), hc _ (by omega), hc _ (by omega), fun j => frozen_of_row _ _ _ _ _ h⟩

theorem c4_snoc (l : List Q4) (q : Q4) : c4 (l ++ [q]) = c4 l ++ [q.a, q.b, q.c, q.d] := by rw [c4_append]; rfl

/-- The first k zones are copied. -/
structure ZDone (S n k : Nat) (zs done : List Zc) (CZ : List Value) (W : World) : Prop where
  same : done.map (·.z) = (zs.take k).map (·.z)
  at_ : ∀ y ∈ done, y.At W ∧ Fresh S y.fo ∧ Fresh S y.to_
  clen : CZ.length = n * 4
  take : CZ.take (k * 4) = c4 (done.map Zc.q)
theorem ZDone.below {S n k : Nat} {zs done : List Zc} {CZ : List Value} {W W' : World} (h : ZDone S n k zs done CZ W) (hb : Below W.heap.size W W') : ZDone S n k zs done CZ W' :=
  ⟨h.same, fun y hy => ⟨(h.at_ y hy).1.below hb, (h.at_ y hy).2⟩, h.clen, h.take⟩
theorem ZDone.but {S n k c : Nat} {zs done : List Zc} {CZ : List Value} {W W' : World} (h : ZDone S n k zs done CZ W) (hb : But c W W') (hc : c < S) : ZDone S n k zs done CZ W' :=
  ⟨h.same, fun y hy => ⟨hb.zn (h.at_ y hy).1 (fun a ha => by have := (h.at_ y hy).2.1 a ha; omega) (fun a ha => by have := (h.at_ y hy).2.2 a ha; omega), (h.at_ y hy).2⟩, h.clen, h.take⟩
theorem ZDone.first {S n : Nat} {zs : List Zc} {CZ : List Value} {W : World} (h : CZ.length = n * 4) : ZDone S n 0 zs [] CZ W := ⟨rfl, fun y hy => absurd hy (by simp), h, by simp [c4]⟩
theorem ZDone.next {S n k g : Nat} {zs done : List Zc} {CZ : List Value} {W W' : World} (h : ZDone S n k zs done CZ W) (hk : k < n) (hn : zs.length = n) {z : Zn} {fo : Option Addr} {fn fc : Nat} {to_ : Option Addr} {tn tc : Nat} (hz : (zs.getD k .zero).z = z) (hb : But g W W') (hg : g < S) (hat : ZnAt W fo fn to_ tn z) (f1 : Fresh S fo) (f2 : Fresh S to_) :
    ZDone S n (k + 1) zs (done ++ [⟨z, fo, fn, fc, to_, tn, tc⟩]) ((((CZ.set (k * 4) (.int .i64 z.f)).set (k * 4 + 1) (.int .i64 z.t)).set (k * 4 + 2) (.slice fo fn fc)).set (k * 4 + 3) (.slice to_ tn tc)) W' := by
  have h' := h.but hb hg
  refine ⟨?_, ?_, by simpa using h.clen, ?_⟩
  · have e : zs[k]'(by omega) = zs.getD k .zero := by rw [List.getD_eq_getElem?_getD, List.getElem?_eq_getElem (by omega)]; rfl
    rw [List.map_append, h.same, List.take_succ_eq_append_getElem (by omega), List.map_append, e, List.map_cons, List.map_cons, List.map_nil, hz]
  · intro y hy
    rcases List.mem_append.1 hy with hy | hy
    · exact h'.at_ y hy
    · rw [List.mem_singleton] at hy
      subst hy
      exact ⟨hb.zn hat (fun a ha => by have := f1 a ha; omega) (fun a ha => by have := f2 a ha; omega), f1, f2⟩
  · rw [take_set4 h.clen hk h.take, List.map_append, List.map_cons, List.map_nil, c4_snoc]
    rfl
theorem ZDone.all {S n : Nat} {zs done : List Zc} {CZ : List Value} {W : World} (h : ZDone S n n zs done CZ W) (hn : zs.length = n) : done.map (·.z) = zs.map (·.z) ∧ CZ = c4 (done.map Zc.q) := by
  have h1 := h.same
  have h2 := h.take
  rw [List.take_of_length_le (by omega)] at h1
  rw [List.take_of_length_le (by have := h.clen; omega)] at h2
  exact ⟨h1, h2⟩

/-- The first k lists are copied. -/
structure LDone (S n k : Nat) (ls done : List Lc) (CL : List Value) (W : World) : Prop where
  same : done.map (·.l) = (ls.take k).map (·.l)
  at_ : ∀ y ∈ done, y.At W ∧ Fresh S y.po ∧ y.pc = y.pn
  clen : CL.length = n * 4
  take : CL.take (k * 4) = c4 (done.map Lc.q)
theorem LDone.but {S n k c : Nat} {ls done : List Lc} {CL : List Value} {W W' : World} (h : LDone S n k ls done CL W) (hb : But c W W') (hc : c < S) : LDone S n k ls done CL W' :=
  ⟨h.same, fun y hy => ⟨hb.nums (h.at_ y hy).1 (fun a ha => by have := (h.at_ y hy).2.1 a ha; omega), (h.at_ y hy).2⟩, h.clen, h.take⟩
theorem LDone.first {S n : Nat} {ls : List Lc} {CL : List Value} {W : World} (h : CL.length = n * 4) : LDone S n 0 ls [] CL W := ⟨rfl, fun y hy => absurd hy (by simp), h, by simp [c4]⟩
theorem LDone.next {S n k g : Nat} {ls done : List Lc} {CL CL' : List Value} {W W' : World} (h : LDone S n k ls done CL W) (hk : k < n) (hn : ls.length = n) {l : Ls} {po : Option Addr} {pn : Nat} (hz : (ls.getD k .zero).l = l) (hb : But g W W') (hg : g < S) (hat : Nums W' po pn l.pages) (f1 : Fresh S po)
    (hC : CL' = (((CL.set (k * 4) (.int .i64 l.c)).set (k * 4 + 1) (.int .i64 l.z)).set (k * 4 + 2) (.int .i64 l.t)).set (k * 4 + 3) (.slice po pn pn)) : LDone S n (k + 1) ls (done ++ [⟨l, po, pn, pn⟩]) CL' W' := by
  subst hC
  have h' := h.but hb hg
  refine ⟨?_, ?_, by simpa using h.clen, ?_⟩
  · have e : ls[k]'(by omega) = ls.getD k .zero := by rw [List.getD_eq_getElem?_getD, List.getElem?_eq_getElem (by omega)]; rfl
    rw [List.map_append, h.same, List.take_succ_eq_append_getElem (by omega), List.map_append, e, List.map_cons, List.map_cons, List.map_nil, hz]
  · intro y hy
    rcases List.mem_append.1 hy with hy | hy
    · exact h'.at_ y hy
    · rw [List.mem_singleton] at hy
      subst hy
      exact ⟨hat, f1, rfl⟩
  · rw [take_set4 h.clen hk h.take, List.map_append, List.map_cons, List.map_nil, c4_snoc]
    rfl
theorem LDone.all {S n : Nat} {ls done : List Lc} {CL : List Value} {W : World} (h : LDone S n n ls done CL W) (hn : ls.length = n) : done.map (·.l) = ls.map (·.l) ∧ CL = c4 (done.map Lc.q) := by
  have h1 := h.same
  have h2 := h.take
  rw [List.take_of_length_le (by omega)] at h1
  rw [List.take_of_length_le (by have := h.clen; omega)] at h2
  exact ⟨h1, h2⟩

/-- copy, the last step of a region that draws. -/
theorem oper_copy_k {P : Program} {o : Oper} {a : Act} {w : World} {K : Act → World → Prop} {Q : Exit → Act → World → Prop} (hgd : o.guard = none) (d s : Operand) (dT sT : TypeId)
    (ho : o.op = .call { callee := .builtin .copy, args := #[d, s], argTypes := #[dT, sT] }) (elem : TypeId) (k : Nat) (hu : P.underlying dT = some (.slice elem)) (hsz : (P.info? elem).map (·.size) = some k)
    (dp sp : Option Addr) (dLen dCap sLen sCap : Nat) (hd : a.eval d = .slice dp dLen dCap) (hs : a.eval s = .slice sp sLen sCap)
    (g off : Nat) (cur : List Value) (t : TypeId) (hg : w.heap[g]? = some (.cells cur.toArray t (0, 0))) (cs : List Value) (m : Nat) (hm : Nat.min sLen dLen = m) (hn : cs.length = m * k)
    (hpos : 0 < m → dp = some ⟨g, off, none⟩ ∧ ∃ ad, sp = some ad ∧ ∀ j v, cs[j]? = some v → w.cell? (ad.add j) = some v)
    (hfit : off + cs.length ≤ cur.length) (h1 : ∀ v ∈ cs, v.oneCell' = true)
    (h : ∀ w', Hid (w'.heap[g]? = some (.cells (splice cur off cs).toArray t (0, 0))) → But g w w' → K (a.put o.dst (goInt m)) w') : Oper.wp P o a w K Q := by
  have h := step_copy_k (P := P) (ops := #[]) (E := True) (Q := Q) hgd d s dT sT ho elem k hu hsz dp sp dLen dCap sLen sCap hd hs g off cur t hg cs m hm hn hpos hfit h1 h
  simpa [Region.wanted, hgd] using h

/-- A heap in new memory is returned. -/
def RetHeap (B : Nat) (w' : World) (H : Hp) (e : Ending) : Prop :=
  ∃ gz gl gv y, e = .returned (.agg #[.slice y.zo y.zn y.zc, .slice y.mo y.mn y.mc, .int .i64 y.cpus, .slice y.lo y.ln y.lc, .slice y.vo y.vn y.vc]) ∧ y.hp = H ∧ HOwn w' B gz gl gv y

theorem HcI.owns {W0 : World} {hb : Nat} {x : Hx} {X gz gm gl gv : Nat} {CZ CM CL CV : List Value} {W : World} {S : Nat} {zd : List Zc} {ld : List Lc} (I : HcI W0 hb x X gz gm gl gv CZ CM CL CV W) (F : Five W0.heap.size S X gz gm gl gv) (hx : x.At W)
    (D : ZDone S x.zn x.zn x.zs zd CZ W) (L : LDone S x.ln x.ln x.ls ld CL W) (hM : CM = vals x.mins) (hV : CV = bvals x.live) :
    HOwn W W0.heap.size gz gl gv ⟨zd, some ⟨gz, 0, none⟩, x.zn, x.zn, x.mins, some ⟨gm, 0, none⟩, x.mn, x.mn, x.cpus, ld, some ⟨gl, 0, none⟩, x.ln, x.ln, x.live, some ⟨gv, 0, none⟩, x.vn, x.vn⟩ ∧
    (Hx.mk zd (some ⟨gz, 0, none⟩) x.zn x.zn x.mins (some ⟨gm, 0, none⟩) x.mn x.mn x.cpus ld (some ⟨gl, 0, none⟩) x.ln x.ln x.live (some ⟨gv, 0, none⟩) x.vn x.vn).hp = x.hp := by
  obtain ⟨d1, d2⟩ := D.all hx.zones.len
  obtain ⟨l1, l2⟩ := L.all hx.lists.len
  have rz := hx.zones.reach
  have rm := hx.mins.reach
  have rl := hx.lists.reach
  have rv := hx.live.reach
  have f1 := F.z1
  have f2 := F.m1
  have f3 := F.l1
  have f4 := F.v1
  have oz : W.ownsRow W0.heap.size 44 4 (.slice (some ⟨gz, 0, none⟩) x.zn x.zn) x.zn (c4 (zd.map Zc.q)) := by rw [← d2]; exact owns_of_row I.rz (by omega) D.clen (by unfold maxLen; omega)
  have ol : W.ownsRow W0.heap.size 57 4 (.slice (some ⟨gl, 0, none⟩) x.ln x.ln) x.ln (c4 (ld.map Lc.q)) := by rw [← l2]; exact owns_of_row I.rl (by omega) L.clen (by unfold maxLen; omega)
  have lV : CV.length = x.vn * 3 := by rw [hV, length_bvals, hx.live.len]
  have lM : CM.length = x.mn * 1 := by rw [hM, length_vals, hx.mins.len]; omega
  have ov : W.ownsRow W0.heap.size 63 3 (.slice (some ⟨gv, 0, none⟩) x.vn x.vn) x.vn (bvals x.live) := by rw [← hV]; exact owns_of_row I.rv (by omega) lV (by unfold maxLen; omega)
  have om : W.ownsRow W0.heap.size 3 1 (.slice (some ⟨gm, 0, none⟩) x.mn x.mn) x.mn (vals x.mins) := by rw [← hM]; exact owns_of_row I.rm (by omega) lM (by unfold maxLen; omega)
  have hz : Zons W (some ⟨gz, 0, none⟩) x.zn zd := ⟨by have := congrArg List.length d1; simp only [List.length_map] at this; rw [this]; exact hx.zones.len, rz, c4_of_owns oz, fun y hy => (D.at_ y hy).1⟩
  have hl : Lsts W (some ⟨gl, 0, none⟩) x.ln ld := ⟨by have := congrArg List.length l1; simp only [List.length_map] at this; rw [this]; exact hx.lists.len, rl, c4_of_owns ol, fun y hy => (L.at_ y hy).1⟩
  have off : ∀ {ao : Option Addr}, Fresh S ao → Off3 gz gl gv ao := fun h a ha => by
    have := h a ha
    have g1 := F.z2
    have g2 := F.l2
    have g3 := F.v2
    exact ⟨by omega, by omega, by omega⟩
  have wk : ∀ {ao : Option Addr}, Fresh S ao → Fresh W0.heap.size ao := fun h => h.mono (by have := F.z2; omega)
  refine ⟨⟨oz, ol, ov, rfl, fun a ha => by cases ha; rfl, fun a ha => by cases ha; rfl, ⟨hz, nums_of_owns om rm, hl, blks_own ov rv⟩, F.zl, F.zv, F.lv, fun y hy => ?_, fun y hy => ?_, ?_, ?_, by omega, by omega, by omega⟩, ?_⟩
  · obtain ⟨_, h1, h2⟩ := D.at_ y hy
    exact ⟨off h1, off h2, wk h1, wk h2⟩
  · obtain ⟨_, h1, h2⟩ := L.at_ y hy
    exact ⟨off h1, wk h1, h2⟩
  · intro a ha
    cases ha
    exact ⟨fun e => F.zm e.symm, F.ml, F.mv⟩
  · intro a ha
    cases ha
    show W0.heap.size ≤ gm
    omega
  · show Hp.mk _ _ _ _ _ = Hp.mk _ _ _ _ _
    rw [d1, l1]

theorem HOwn.but {W W' : World} {B gz gl gv c : Nat} {y : Hx} (h : HOwn W B gz gl gv y) (hb : But c W W') (hc : c < B) : HOwn W' B gz gl gv y := by
  have g1 := h.gzB
  have g2 := h.glB
  have g3 := h.gvB
  have keepOwn : ∀ {e : TypeId} {size n cap : Nat} {ao : Option Addr} {xs : List Value}, W.ownsRow B e size (.slice ao n cap) n xs → W'.ownsRow B e size (.slice ao n cap) n xs := by
    intro e size n cap ao xs ho
    refine ⟨ho.1, ?_⟩
    rcases ho.2 with hn | ⟨g, cp, cur, hv, hbg, hg, rest⟩
    · exact .inl hn
    · exact .inr ⟨g, cp, cur, hv, hbg, (hb.block g (lt_of_row hg) (by omega)).trans hg, rest⟩
  have fr : ∀ {ao : Option Addr}, Fresh B ao → ∀ a, ao = some a → a.block ≠ c := fun hf a ha => by have := hf a ha; omega
  have oz := keepOwn h.oz
  have ol := keepOwn h.ol
  have ov := keepOwn h.ov
  exact ⟨oz, ol, ov, h.ez, h.el, h.ev, ⟨⟨h.at_.zones.len, h.at_.zones.reach, c4_of_owns oz, fun z hz => hb.zn (h.at_.zones.at_ z hz) (fr (h.zoff z hz).2.2.1) (fr (h.zoff z hz).2.2.2)⟩, hb.nums h.at_.mins (fr h.mfresh), ⟨h.at_.lists.len, h.at_.lists.reach, c4_of_owns ol, fun l hl => hb.nums (h.at_.lists.at_ l hl) (fr (h.loff l hl).2.1)⟩, ⟨h.at_.live.len, h.at_.live.reach, blks_of_owns ov⟩⟩, h.zl, h.zv, h.lv, h.zoff, h.loff, h.moff, h.mfresh, h.gzB, h.glB, h.gvB⟩

theorem HOwn.weaken {W : World} {B B' gz gl gv : Nat} {y : Hx} (h : HOwn W B gz gl gv y) (hb : B' ≤ B) : HOwn W B' gz gl gv y :=
  ⟨owns_weaken h.oz hb, owns_weaken h.ol hb, owns_weaken h.ov hb, h.ez, h.el, h.ev, h.at_, h.zl, h.zv, h.lv, fun z hz => ⟨(h.zoff z hz).1, (h.zoff z hz).2.1, (h.zoff z hz).2.2.1.mono hb, (h.zoff z hz).2.2.2.mono hb⟩, fun l hl => ⟨(h.loff l hl).1, (h.loff l hl).2.1.mono hb, (h.loff l hl).2.2⟩, h.moff, h.mfresh.mono hb, Nat.le_trans hb h.gzB, Nat.le_trans hb h.glB, Nat.le_trans hb h.gvB⟩

end Go.Proofs.Ytmpalonhckafjaa
