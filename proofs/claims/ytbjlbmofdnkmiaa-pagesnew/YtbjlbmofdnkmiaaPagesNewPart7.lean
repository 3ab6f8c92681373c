/-
  OWN TEXTS, bundled: HcI, HcSm, HcMarks, HcApart.
-/
import Derived.Test.YtbjlbmofdnkmiaaPagesNewPart6
import Derived.Test.YtbjlbmofdnkmiaaPagesNewPart5
import Derived.Test.YtbjlbmofdnkmiaaPagesNewPart3

/-
  OWN TEXT. A heap of pages whose rows the call owns; what is there in the midst of a copy.
-/
namespace Go.Proofs.Ytbjlbmofdnkmiaa
open Go Go.RowKit Go.Proofs.Ytbjlbmofdnkmiaa.Kit

/-- The address lies in none of three blocks. -/
def Off3 (p q r : Nat) (ao : Option Addr) : Prop := ∀ a, ao = some a → a.block ≠ p ∧ a.block ≠ q ∧ a.block ≠ r

/-- A heap whose rows of zones, lists and blocks the call owns, at gz, gl, gv; what they point to lies elsewhere. -/
structure HOwn (w : World) (B gz gl gv : Nat) (y : Hx) : Prop where
  oz : w.ownsRow B 44 4 (.slice y.zo y.zn y.zc) y.zn (c4 (y.zs.map Zc.q))
  ol : w.ownsRow B 57 4 (.slice y.lo y.ln y.lc) y.ln (c4 (y.ls.map Lc.q))
  ov : w.ownsRow B 63 3 (.slice y.vo y.vn y.vc) y.vn (bvals y.live)
  ez : y.zo = some ⟨gz, 0, none⟩
  el : ∀ a, y.lo = some a → a.block = gl
  ev : ∀ a, y.vo = some a → a.block = gv
  at_ : y.At w
  zl : gz ≠ gl
  zv : gz ≠ gv
  lv : gl ≠ gv
  zoff : ∀ z ∈ y.zs, Off3 gz gl gv z.fo ∧ Off3 gz gl gv z.to_ ∧ Fresh B z.fo ∧ Fresh B z.to_
  loff : ∀ l ∈ y.ls, Off3 gz gl gv l.po ∧ Fresh B l.po ∧ l.pc = l.pn
  moff : Off3 gz gl gv y.mo
  mfresh : Fresh B y.mo
  gzB : B ≤ gz
  glB : B ≤ gl
  gvB : B ≤ gv

/-- Five numbers of blocks, from s on and below t, no two the same. -/
structure Five (s t X gz gm gl gv : Nat) : Prop where
  x1 : s ≤ X
  z1 : s ≤ gz
  m1 : s ≤ gm
  l1 : s ≤ gl
  v1 : s ≤ gv
  x2 : X < t
  z2 : gz < t
  m2 : gm < t
  l2 : gl < t
  v2 : gv < t
  xz : X ≠ gz
  xm : X ≠ gm
  xl : X ≠ gl
  xv : X ≠ gv
  zm : gz ≠ gm
  zl : gz ≠ gl
  zv : gz ≠ gv
  ml : gm ≠ gl
  mv : gm ≠ gv
  lv : gl ≠ gv

/-- What is there in the midst of a copy. -/
structure HcI (W0 : World) (hb : Nat) (h : Hx) (X gz gm gl gv : Nat) (CZ CM CL CV : List Value) (W : World) : Prop where
  b : Below W0.heap.size W0 W
  hin : HBox W hb (.slice h.zo h.zn h.zc) (.slice h.mo h.mn h.mc) (.int .i64 h.cpus) (.slice h.lo h.ln h.lc) (.slice h.vo h.vn h.vc)
  res : HBox W (hb + 1) (.slice none 0 0) (.slice none 0 0) (.int .i64 0) (.slice none 0 0) (.slice none 0 0)
  box : HBox W X (.slice (some ⟨gz, 0, none⟩) h.zn h.zn) (.slice (some ⟨gm, 0, none⟩) h.mn h.mn) (.int .i64 h.cpus) (.slice (some ⟨gl, 0, none⟩) h.ln h.ln) (.slice (some ⟨gv, 0, none⟩) h.vn h.vn)
  rz : W.heap[gz]? = some (.cells CZ.toArray 44 (0, 0))
  rm : W.heap[gm]? = some (.cells CM.toArray 3 (0, 0))
  rl : W.heap[gl]? = some (.cells CL.toArray 57 (0, 0))
  rv : W.heap[gv]? = some (.cells CV.toArray 63 (0, 0))

theorem lt_of_row {W : World} {g : Nat} {o : Obj} (h : W.heap[g]? = some o) : g < W.heap.size := (Array.getElem?_eq_some_iff.1 h).1

section
variable {W0 : World} {hb : Nat} {h : Hx} {X gz gm gl gv : Nat} {CZ CM CL CV : List Value} {W W' : World} {s t : Nat}
theorem HcI.below (I : HcI W0 hb h X gz gm gl gv CZ CM CL CV W) (hB : Below W.heap.size W W') : HcI W0 hb h X gz gm gl gv CZ CM CL CV W' :=
  ⟨I.b.trans (hB.mono I.b.size), I.hin.below hB, I.res.below hB, I.box.below hB, (hB.block _ (lt_of_row I.rz)).trans I.rz, (hB.block _ (lt_of_row I.rm)).trans I.rm, (hB.block _ (lt_of_row I.rl)).trans I.rl, (hB.block _ (lt_of_row I.rv)).trans I.rv⟩
theorem HcI.setZ (I : HcI W0 hb h X gz gm gl gv CZ CM CL CV W) (F : Five s t X gz gm gl gv) (hs : W0.heap.size = hb + 2) (hs' : s = W0.heap.size) (hB : But gz W W') {C : List Value} (hr : W'.heap[gz]? = some (.cells C.toArray 44 (0, 0))) : HcI W0 hb h X gz gm gl gv C CM CL CV W' :=
  ⟨I.b.trans (hB.below (by have := F.z1; omega) I.b.size), I.hin.but hB (by have := F.z1; omega), I.res.but hB (by have := F.z1; omega), I.box.but hB F.xz, hr, (hB.block _ (lt_of_row I.rm) (fun e => F.zm e.symm)).trans I.rm, (hB.block _ (lt_of_row I.rl) (fun e => F.zl e.symm)).trans I.rl, (hB.block _ (lt_of_row I.rv) (fun e => F.zv e.symm)).trans I.rv⟩
theorem HcI.setM (I : HcI W0 hb h X gz gm gl gv CZ CM CL CV W) (F : Five s t X gz gm gl gv) (hs : W0.heap.size = hb + 2) (hs' : s = W0.heap.size) (hB : But gm W W') {C : List Value} (hr : W'.heap[gm]? = some (.cells C.toArray 3 (0, 0))) : HcI W0 hb h X gz gm gl gv CZ C CL CV W' :=
  ⟨I.b.trans (hB.below (by have := F.m1; omega) I.b.size), I.hin.but hB (by have := F.m1; omega), I.res.but hB (by have := F.m1; omega), I.box.but hB F.xm, (hB.block _ (lt_of_row I.rz) F.zm).trans I.rz, hr, (hB.block _ (lt_of_row I.rl) (fun e => F.ml e.symm)).trans I.rl, (hB.block _ (lt_of_row I.rv) (fun e => F.mv e.symm)).trans I.rv⟩
theorem HcI.setL (I : HcI W0 hb h X gz gm gl gv CZ CM CL CV W) (F : Five s t X gz gm gl gv) (hs : W0.heap.size = hb + 2) (hs' : s = W0.heap.size) (hB : But gl W W') {C : List Value} (hr : W'.heap[gl]? = some (.cells C.toArray 57 (0, 0))) : HcI W0 hb h X gz gm gl gv CZ CM C CV W' :=
  ⟨I.b.trans (hB.below (by have := F.l1; omega) I.b.size), I.hin.but hB (by have := F.l1; omega), I.res.but hB (by have := F.l1; omega), I.box.but hB F.xl, (hB.block _ (lt_of_row I.rz) F.zl).trans I.rz, (hB.block _ (lt_of_row I.rm) F.ml).trans I.rm, hr, (hB.block _ (lt_of_row I.rv) (fun e => F.lv e.symm)).trans I.rv⟩
theorem HcI.setV (I : HcI W0 hb h X gz gm gl gv CZ CM CL CV W) (F : Five s t X gz gm gl gv) (hs : W0.heap.size = hb + 2) (hs' : s = W0.heap.size) (hB : But gv W W') {C : List Value} (hr : W'.heap[gv]? = some (.cells C.toArray 63 (0, 0))) : HcI W0 hb h X gz gm gl gv CZ CM CL C W' :=
  ⟨I.b.trans (hB.below (by have := F.v1; omega) I.b.size), I.hin.but hB (by have := F.v1; omega), I.res.but hB (by have := F.v1; omega), I.box.but hB F.xv, (hB.block _ (lt_of_row I.rz) F.zv).trans I.rz, (hB.block _ (lt_of_row I.rm) F.mv).trans I.rm, (hB.block _ (lt_of_row I.rl) F.lv).trans I.rl, hr⟩
end

theorem HcI.newer {W0 : World} {hb : Nat} {h : Hx} {X gz gm gl gv : Nat} {CZ CM CL CV : List Value} {W W' : World} {s t c : Nat} (I : HcI W0 hb h X gz gm gl gv CZ CM CL CV W) (F : Five s t X gz gm gl gv) (hs : W0.heap.size = hb + 2) (hs' : s = W0.heap.size) (hB : But c W W') (hc : t ≤ c) : HcI W0 hb h X gz gm gl gv CZ CM CL CV W' :=
  ⟨I.b.trans (hB.below (by have := F.z1; have := F.z2; omega) I.b.size), I.hin.but hB (by have := F.z1; have := F.z2; omega), I.res.but hB (by have := F.z1; have := F.z2; omega), I.box.but hB (by have := F.x2; omega), (hB.block _ (lt_of_row I.rz) (by have := F.z2; omega)).trans I.rz, (hB.block _ (lt_of_row I.rm) (by have := F.m2; omega)).trans I.rm, (hB.block _ (lt_of_row I.rl) (by have := F.l2; omega)).trans I.rl, (hB.block _ (lt_of_row I.rv) (by have := F.v2; omega)).trans I.rv⟩
theorem But.then_new {b c : Nat} {w w' w'' : World} (h : But b w w') (k : But c w' w'') (hc : w.heap.size ≤ c) : But b w w'' :=
  ⟨k.os.trans h.os, k.tape.trans h.tape, k.output.trans h.output, Nat.le_trans h.size k.size, fun i hi hb => (k.block i (Nat.lt_of_lt_of_le hi h.size) (by omega)).trans (h.block i hi hb)⟩

/-- Four stores into a row. -/
theorem row_set4 {W : World} {g : Nat} {t : TypeId} {L : List Value} (h : W.heap[g]? = some (.cells L.toArray t (0, 0))) (i : Nat) (a b c d : Value) :
    ((((W.setCell ⟨g, i, none⟩ a).setCell ⟨g, i + 1, none⟩ b).setCell ⟨g, i + 2, none⟩ c).setCell ⟨g, i + 3, none⟩ d).heap[g]? = some (.cells ((((L.set i a).set (i + 1) b).set (i + 2) c).set (i + 3) d).toArray t (0, 0)) := by
  have h1 : (W.setCell ⟨g, i, none⟩ a).heap[g]? = some (.cells (L.toArray.setIfInBounds i a) t (0, 0)) := heap_setCell_same _ _ _ _ _ _ h
  have h2 : ((W.setCell ⟨g, i, none⟩ a).setCell ⟨g, i + 1, none⟩ b).heap[g]? = some (.cells ((L.toArray.setIfInBounds i a).setIfInBounds (i + 1) b) t (0, 0)) := heap_setCell_same _ _ _ _ _ _ h1
  have h3 : (((W.setCell ⟨g, i, none⟩ a).setCell ⟨g, i + 1, none⟩ b).setCell ⟨g, i + 2, none⟩ c).heap[g]? = some (.cells (((L.toArray.setIfInBounds i a).setIfInBounds (i + 1) b).setIfInBounds (i + 2) c) t (0, 0)) := heap_setCell_same _ _ _ _ _ _ h2
  have h4 : ((((W.setCell ⟨g, i, none⟩ a).setCell ⟨g, i + 1, none⟩ b).setCell ⟨g, i + 2, none⟩ c).setCell ⟨g, i + 3, none⟩ d).heap[g]? = some (.cells ((((L.toArray.setIfInBounds i a).setIfInBounds (i + 1) b).setIfInBounds (i + 2) c).setIfInBounds (i + 3) d) t (0, 0)) := heap_setCell_same _ _ _ _ _ _ h3
  simpa using h4
theorem row_set1 {W : World} {g : Nat} {t : TypeId} {L : List Value} (h : W.heap[g]? = some (.cells L.toArray t (0, 0))) (i : Nat) (a : Value) : (W.setCell ⟨g, i, none⟩ a).heap[g]? = some (.cells (L.set i a).toArray t (0, 0)) := by
  have h1 : (W.setCell ⟨g, i, none⟩ a).heap[g]? = some (.cells (L.toArray.setIfInBounds i a) t (0, 0)) := heap_setCell_same _ _ _ _ _ _ h
  simpa using h1
theorem but_set4 (W : World) (g i : Nat) (a b c d : Value) : But g W ((((W.setCell ⟨g, i, none⟩ a).setCell ⟨g, i + 1, none⟩ b).setCell ⟨g, i + 2, none⟩ c).setCell ⟨g, i + 3, none⟩ d) :=
  ((((But.refl g W).setCell a).setCell b).setCell c).setCell d

theorem take_set4 {L A : List Value} {k n : Nat} (hl : L.length = n * 4) (hk : k < n) (ht : L.take (k * 4) = A) (a b c d : Value) :
    ((((L.set (k * 4) a).set (k * 4 + 1) b).set (k * 4 + 2) c).set (k * 4 + 3) d).take ((k + 1) * 4) = A ++ [a, b, c, d] := by
  subst ht
  apply List.ext_getElem?
  intro i
  rw [List.getElem?_take]
  by_cases h : i < (k + 1) * 4
  · rw [if_pos h]
    by_cases h0 : i < k * 4
    · rw [List.getElem?_append_left (by simp; omega), List.getElem?_take, if_pos h0]
      rw [List.getElem?_set_ne (by omega), List.getElem?_set_ne (by omega), List.getElem?_set_ne (by omega), List.getElem?_set_ne (by omega)]
    · rw [List.getElem?_append_right (by simp; omega)]
      have hlen : (L.take (k * 4)).length = k * 4 := by simp; omega
      rw [hlen]
      rcases (show i = k * 4 ∨ i = k * 4 + 1 ∨ i = k * 4 + 2 ∨ i = k * 4 + 3 by omega) with rfl | rfl | rfl | rfl
      · rw [List.getElem?_set_ne (by omega), List.getElem?_set_ne (by omega), List.getElem?_set_ne (by omega), List.getElem?_set_self (by omega)]
        simp
      · rw [List.getElem?_set_ne (by omega), List.getElem?_set_ne (by omega), List.getElem?_set_self (by simp; omega)]
        simp [show k * 4 + 1 - k * 4 = 1 by omega]
      · rw [List.getElem?_set_ne (by omega), List.getElem?_set_self (by simp; omega)]
        simp [show k * 4 + 2 - k * 4 = 2 by omega]
      · rw [List.getElem?_set_self (by simp; omega)]
        simp [show k * 4 + 3 - k * 4 = 3 by omega]
  · rw [if_neg h, List.getElem?_eq_none (by simp; omega)]

theorem row_res4 {W : World} {g : Nat} {t : TypeId} {L : List Value} {n k : Nat} (h : W.heap[g]? = some (.cells L.toArray t (0, 0))) (hl : L.length = n * 4) (hk : k < n) :
    (∃ v, W.cell? ⟨g, k * 4, none⟩ = some v) ∧ (∃ v, W.cell? ⟨g, k * 4 + 1, none⟩ = some v) ∧ (∃ v, W.cell? ⟨g, k * 4 + 2, none⟩ = some v) ∧ (∃ v, W.cell? ⟨g, k * 4 + 3, none⟩ = some v) ∧ ∀ j, W.frozen? ⟨g, j, none⟩ = false := by
  have hc : ∀ j, j < L.length → ∃ v, W.cell? ⟨g, j, none⟩ = some v := fun j hj => ⟨L[j], by rw [cell_of_row _ _ _ _ _ _ h]; simp [hj]⟩
  exact ⟨hc _ (by omega), hc _ (by omega), hc _ (by omega), hc _ (by omega), fun j => frozen_of_row _ _ _ _ _ h⟩

theorem c4_snoc (l : List Q4) (q : Q4) : c4 (l ++ [q]) = c4 l ++ [q.a, q.b, q.c, q.d] := by rw [c4_append]; rfl

/-- The first k zones are copied. -/
structure ZDone (S n k : Nat) (zs done : List Zc) (CZ : List Value) (W : World) : Prop where
  same : done.map (·.z) = (zs.take k).map (·.z)
  at_ : ∀ y ∈ done, y.At W ∧ Fresh S y.fo ∧ Fresh S y.to_
  clen : CZ.length = n * 4
  take : CZ.take (k * 4) = c4 (done.map Zc.q)
theorem ZDone.below {S n k : Nat} {zs done : List Zc} {CZ : List Value} {W W' : World} (h : ZDone S n k zs done CZ W) (hb : Below W.heap.size W W') : ZDone S n k zs done CZ W' :=
  ⟨h.same, fun y hy => ⟨(h.at_ y hy).1.below hb, (h.at_ y hy).2⟩, h.clen, h.take⟩
theorem ZDone.but {S n k c : Nat} {zs done : List Zc} {CZ : List Value} {W W' : World} (h : ZDone S n k zs done CZ W) (hb : But c W W') (hc : c < S) : ZDone S n k zs done CZ W' :=
  ⟨h.same, fun y hy => ⟨hb.zn (h.at_ y hy).1 (fun a ha => by have := (h.at_ y hy).2.1 a ha; omega) (fun a ha => by have := (h.at_ y hy).2.2 a ha; omega), (h.at_ y hy).2⟩, h.clen, h.take⟩
theorem ZDone.first {S n : Nat} {zs : List Zc} {CZ : List Value} {W : World} (h : CZ.length = n * 4) : ZDone S n 0 zs [] CZ W := ⟨rfl, fun y hy => absurd hy (by simp), h, by simp [c4]⟩
theorem ZDone.next {S n k g : Nat} {zs done : List Zc} {CZ : List Value} {W W' : World} (h : ZDone S n k zs done CZ W) (hk : k < n) (hn : zs.length = n) {z : Zn} {fo : Option Addr} {fn fc : Nat} {to_ : Option Addr} {tn tc : Nat} (hz : (zs.getD k .zero).z = z) (hb : But g W W') (hg : g < S) (hat : ZnAt W fo fn to_ tn z) (f1 : Fresh S fo) (f2 : Fresh S to_) :
    ZDone S n (k + 1) zs (done ++ [⟨z, fo, fn, fc, to_, tn, tc⟩]) ((((CZ.set (k * 4) (.int .i64 z.f)).set (k * 4 + 1) (.int .i64 z.t)).set (k * 4 + 2) (.slice fo fn fc)).set (k * 4 + 3) (.slice to_ tn tc)) W' := by
  have h' := h.but hb hg
  refine ⟨?_, ?_, by simpa using h.clen, ?_⟩
  · have e : zs[k]'(by omega) = zs.getD k .zero := by rw [List.getD_eq_getElem?_getD, List.getElem?_eq_getElem (by omega)]; rfl
    rw [List.map_append, h.same, List.take_succ_eq_append_getElem (by omega), List.map_append, e, List.map_cons, List.map_cons, List.map_nil, hz]
  · intro y hy
    rcases List.mem_append.1 hy with hy | hy
    · exact h'.at_ y hy
    · rw [List.mem_singleton] at hy
      subst hy
      exact ⟨hb.zn hat (fun a ha => by have := f1 a ha; omega) (fun a ha => by have := f2 a ha; omega), f1, f2⟩
  · rw [take_set4 h.clen hk h.take, List.map_append, List.map_cons, List.map_nil, c4_snoc]
    rfl
theorem ZDone.all {S n : Nat} {zs done : List Zc} {CZ : List Value} {W : World} (h : ZDone S n n zs done CZ W) (hn : zs.length = n) : done.map (·.z) = zs.map (·.z) ∧ CZ = c4 (done.map Zc.q) := by
  have h1 := h.same
  have h2 := h.take
  rw [List.take_of_length_le (by omega)] at h1
  rw [List.take_of_length_le (by have := h.clen; omega)] at h2
  exact ⟨h1, h2⟩

/-- The first k lists are copied. -/
structure LDone (S n k : Nat) (ls done : List Lc) (CL : List Value) (W : World) : Prop where
  same : done.map (·.l) = (ls.take k).map (·.l)
  at_ : ∀ y ∈ done, y.At W ∧ Fresh S y.po ∧ y.pc = y.pn
  clen : CL.length = n * 4
  take : CL.take (k * 4) = c4 (done.map Lc.q)
theorem LDone.but {S n k c : Nat} {ls done : List Lc} {CL : List Value} {W W' : World} (h : LDone S n k ls done CL W) (hb : But c W W') (hc : c < S) : LDone S n k ls done CL W' :=
  ⟨h.same, fun y hy => ⟨hb.nums (h.at_ y hy).1 (fun a ha => by have := (h.at_ y hy).2.1 a ha; omega), (h.at_ y hy).2⟩, h.clen, h.take⟩
theorem LDone.first {S n : Nat} {ls : List Lc} {CL : List Value} {W : World} (h : CL.length = n * 4) : LDone S n 0 ls [] CL W := ⟨rfl, fun y hy => absurd hy (by simp), h, by simp [c4]⟩
theorem LDone.next {S n k g : Nat} {ls done : List Lc} {CL CL' : List Value} {W W' : World} (h : LDone S n k ls done CL W) (hk : k < n) (hn : ls.length = n) {l : Ls} {po : Option Addr} {pn : Nat} (hz : (ls.getD k .zero).l = l) (hb : But g W W') (hg : g < S) (hat : Nums W' po pn l.pages) (f1 : Fresh S po)
    (hC : CL' = (((CL.set (k * 4) (.int .i64 l.c)).set (k * 4 + 1) (.int .i64 l.z)).set (k * 4 + 2) (.int .i64 l.t)).set (k * 4 + 3) (.slice po pn pn)) : LDone S n (k + 1) ls (done ++ [⟨l, po, pn, pn⟩]) CL' W' := by
  subst hC
  have h' := h.but hb hg
  refine ⟨?_, ?_, by simpa using h.clen, ?_⟩
  · have e : ls[k]'(by omega) = ls.getD k .zero := by rw [List.getD_eq_getElem?_getD, List.getElem?_eq_getElem (by omega)]; rfl
    rw [List.map_append, h.same, List.take_succ_eq_append_getElem (by omega), List.map_append, e, List.map_cons, List.map_cons, List.map_nil, hz]
  · intro y hy
    rcases List.mem_append.1 hy with hy | hy
    · exact h'.at_ y hy
    · rw [List.mem_singleton] at hy
      subst hy
      exact ⟨hat, f1, rfl⟩
  · rw [take_set4 h.clen hk h.take, List.map_append, List.map_cons, List.map_nil, c4_snoc]
    rfl
theorem LDone.all {S n : Nat} {ls done : List Lc} {CL : List Value} {W : World} (h : LDone S n n ls done CL W) (hn : ls.length = n) : done.map (·.l) = ls.map (·.l) ∧ CL = c4 (done.map Lc.q) := by
  have h1 := h.same
  have h2 := h.take
  rw [List.take_of_length_le (by omega)] at h1
  rw [List.take_of_length_le (by have := h.clen; omega)] at h2
  exact ⟨h1, h2⟩

/-- copy, the last step of a region that draws. -/
theorem oper_copy_k {P : Program} {o : Oper} {a : Act} {w : World} {K : Act → World → Prop} {Q : Exit → Act → World → Prop} (hgd : o.guard = none) (d s : Operand) (dT sT : TypeId)
    (ho : o.op = .call { callee := .builtin .copy, args := #[d, s], argTypes := #[dT, sT] }) (elem : TypeId) (k : Nat) (hu : P.underlying dT = some (.slice elem)) (hsz : (P.info? elem).map (·.size) = some k)
    (dp sp : Option Addr) (dLen dCap sLen sCap : Nat) (hd : a.eval d = .slice dp dLen dCap) (hs : a.eval s = .slice sp sLen sCap)
    (g off : Nat) (cur : List Value) (t : TypeId) (hg : w.heap[g]? = some (.cells cur.toArray t (0, 0))) (cs : List Value) (m : Nat) (hm : Nat.min sLen dLen = m) (hn : cs.length = m * k)
    (hpos : 0 < m → dp = some ⟨g, off, none⟩ ∧ ∃ ad, sp = some ad ∧ ∀ j v, cs[j]? = some v → w.cell? (ad.add j) = some v)
    (hfit : off + cs.length ≤ cur.length) (h1 : ∀ v ∈ cs, v.oneCell' = true)
    (h : ∀ w', Hid (w'.heap[g]? = some (.cells (splice cur off cs).toArray t (0, 0))) → But g w w' → K (a.put o.dst (goInt m)) w') : Oper.wp P o a w K Q := by
  have h := step_copy_k (P := P) (ops := #[]) (E := True) (Q := Q) hgd d s dT sT ho elem k hu hsz dp sp dLen dCap sLen sCap hd hs g off cur t hg cs m hm hn hpos hfit h1 h
  simpa [Region.wanted, hgd] using h

/-- A heap in new memory is returned. -/
def RetHeap (B : Nat) (w' : World) (H : Hp) (e : Ending) : Prop :=
  ∃ gz gl gv y, e = .returned (.agg #[.slice y.zo y.zn y.zc, .slice y.mo y.mn y.mc, .int .i64 y.cpus, .slice y.lo y.ln y.lc, .slice y.vo y.vn y.vc]) ∧ y.hp = H ∧ HOwn w' B gz gl gv y

theorem HcI.owns {W0 : World} {hb : Nat} {x : Hx} {X gz gm gl gv : Nat} {CZ CM CL CV : List Value} {W : World} {S : Nat} {zd : List Zc} {ld : List Lc} (I : HcI W0 hb x X gz gm gl gv CZ CM CL CV W) (F : Five W0.heap.size S X gz gm gl gv) (hx : x.At W)
    (D : ZDone S x.zn x.zn x.zs zd CZ W) (L : LDone S x.ln x.ln x.ls ld CL W) (hM : CM = vals x.mins) (hV : CV = bvals x.live) :
    HOwn W W0.heap.size gz gl gv ⟨zd, some ⟨gz, 0, none⟩, x.zn, x.zn, x.mins, some ⟨gm, 0, none⟩, x.mn, x.mn, x.cpus, ld, some ⟨gl, 0, none⟩, x.ln, x.ln, x.live, some ⟨gv, 0, none⟩, x.vn, x.vn⟩ ∧
    (Hx.mk zd (some ⟨gz, 0, none⟩) x.zn x.zn x.mins (some ⟨gm, 0, none⟩) x.mn x.mn x.cpus ld (some ⟨gl, 0, none⟩) x.ln x.ln x.live (some ⟨gv, 0, none⟩) x.vn x.vn).hp = x.hp := by
  obtain ⟨d1, d2⟩ := D.all hx.zones.len
  obtain ⟨l1, l2⟩ := L.all hx.lists.len
  have rz := hx.zones.reach
  have rm := hx.mins.reach
  have rl := hx.lists.reach
  have rv := hx.live.reach
  have f1 := F.z1
  have f2 := F.m1
  have f3 := F.l1
  have f4 := F.v1
  have oz : W.ownsRow W0.heap.size 44 4 (.slice (some ⟨gz, 0, none⟩) x.zn x.zn) x.zn (c4 (zd.map Zc.q)) := by rw [← d2]; exact owns_of_row I.rz (by omega) D.clen (by unfold maxLen; omega)
  have ol : W.ownsRow W0.heap.size 57 4 (.slice (some ⟨gl, 0, none⟩) x.ln x.ln) x.ln (c4 (ld.map Lc.q)) := by rw [← l2]; exact owns_of_row I.rl (by omega) L.clen (by unfold maxLen; omega)
  have lV : CV.length = x.vn * 3 := by rw [hV, length_bvals, hx.live.len]
  have lM : CM.length = x.mn * 1 := by rw [hM, length_vals, hx.mins.len]; omega
  have ov : W.ownsRow W0.heap.size 63 3 (.slice (some ⟨gv, 0, none⟩) x.vn x.vn) x.vn (bvals x.live) := by rw [← hV]; exact owns_of_row I.rv (by omega) lV (by unfold maxLen; omega)
  have om : W.ownsRow W0.heap.size 3 1 (.slice (some ⟨gm, 0, none⟩) x.mn x.mn) x.mn (vals x.mins) := by rw [← hM]; exact owns_of_row I.rm (by omega) lM (by unfold maxLen; omega)
  have hz : Zons W (some ⟨gz, 0, none⟩) x.zn zd := ⟨by have := congrArg List.length d1; simp only [List.length_map] at this; rw [this]; exact hx.zones.len, rz, c4_of_owns oz, fun y hy => (D.at_ y hy).1⟩
  have hl : Lsts W (some ⟨gl, 0, none⟩) x.ln ld := ⟨by have := congrArg List.length l1; simp only [List.length_map] at this; rw [this]; exact hx.lists.len, rl, c4_of_owns ol, fun y hy => (L.at_ y hy).1⟩
  have off : ∀ {ao : Option Addr}, Fresh S ao → Off3 gz gl gv ao := fun h a ha => by
    have := h a ha
    have g1 := F.z2
    have g2 := F.l2
    have g3 := F.v2
    exact ⟨by omega, by omega, by omega⟩
  have wk : ∀ {ao : Option Addr}, Fresh S ao → Fresh W0.heap.size ao := fun h => h.mono (by have := F.z2; omega)
  refine ⟨⟨oz, ol, ov, rfl, fun a ha => by cases ha; rfl, fun a ha => by cases ha; rfl, ⟨hz, nums_of_owns om rm, hl, blks_own ov rv⟩, F.zl, F.zv, F.lv, fun y hy => ?_, fun y hy => ?_, ?_, ?_, by omega, by omega, by omega⟩, ?_⟩
  · obtain ⟨_, h1, h2⟩ := D.at_ y hy
    exact ⟨off h1, off h2, wk h1, wk h2⟩
  · obtain ⟨_, h1, h2⟩ := L.at_ y hy
    exact ⟨off h1, wk h1, h2⟩
  · intro a ha
    cases ha
    exact ⟨fun e => F.zm e.symm, F.ml, F.mv⟩
  · intro a ha
    cases ha
    show W0.heap.size ≤ gm
    omega
  · show Hp.mk _ _ _ _ _ = Hp.mk _ _ _ _ _
    rw [d1, l1]

theorem HOwn.but {W W' : World} {B gz gl gv c : Nat} {y : Hx} (h : HOwn W B gz gl gv y) (hb : But c W W') (hc : c < B) : HOwn W' B gz gl gv y := by
  have g1 := h.gzB
  have g2 := h.glB
  have g3 := h.gvB
  have keepOwn : ∀ {e : TypeId} {size n cap : Nat} {ao : Option Addr} {xs : List Value}, W.ownsRow B e size (.slice ao n cap) n xs → W'.ownsRow B e size (.slice ao n cap) n xs := by
    intro e size n cap ao xs ho
    refine ⟨ho.1, ?_⟩
    rcases ho.2 with hn | ⟨g, cp, cur, hv, hbg, hg, rest⟩
    · exact .inl hn
    · exact .inr ⟨g, cp, cur, hv, hbg, (hb.block g (lt_of_row hg) (by omega)).trans hg, rest⟩
  have fr : ∀ {ao : Option Addr}, Fresh B ao → ∀ a, ao = some a → a.block ≠ c := fun hf a ha => by have := hf a ha; omega
  have oz := keepOwn h.oz
  have ol := keepOwn h.ol
  have ov := keepOwn h.ov
  exact ⟨oz, ol, ov, h.ez, h.el, h.ev, ⟨⟨h.at_.zones.len, h.at_.zones.reach, c4_of_owns oz, fun z hz => hb.zn (h.at_.zones.at_ z hz) (fr (h.zoff z hz).2.2.1) (fr (h.zoff z hz).2.2.2)⟩, hb.nums h.at_.mins (fr h.mfresh), ⟨h.at_.lists.len, h.at_.lists.reach, c4_of_owns ol, fun l hl => hb.nums (h.at_.lists.at_ l hl) (fr (h.loff l hl).2.1)⟩, ⟨h.at_.live.len, h.at_.live.reach, blks_of_owns ov⟩⟩, h.zl, h.zv, h.lv, h.zoff, h.loff, h.moff, h.mfresh, h.gzB, h.glB, h.gvB⟩

theorem HOwn.weaken {W : World} {B B' gz gl gv : Nat} {y : Hx} (h : HOwn W B gz gl gv y) (hb : B' ≤ B) : HOwn W B' gz gl gv y :=
  ⟨owns_weaken h.oz hb, owns_weaken h.ol hb, owns_weaken h.ov hb, h.ez, h.el, h.ev, h.at_, h.zl, h.zv, h.lv, fun z hz => ⟨(h.zoff z hz).1, (h.zoff z hz).2.1, (h.zoff z hz).2.2.1.mono hb, (h.zoff z hz).2.2.2.mono hb⟩, fun l hl => ⟨(h.loff l hl).1, (h.loff l hl).2.1.mono hb, (h.loff l hl).2.2⟩, h.moff, h.mfresh.mono hb, Nat.le_trans hb h.gzB, Nat.le_trans hb h.glB, Nat.le_trans hb h.gvB⟩

end Go.Proofs.Ytbjlbmofdnkmiaa

/-
  OWN TEXT. Contracts of the code: the small functions of pages, and cmp's.
-/
namespace Go.Proofs.Ytbjlbmofdnkmiaa
open Go Go.RowKit Go.Proofs.Ytbjlbmofdnkmiaa.Kit

set_option maxHeartbeats 1000000 in
theorem pIsMin_any (w : World) (x : Int) :
    Calls Try.prog 21 #[.int .i64 x] w fun e w' => e = .returned (.bool (inB x 0 256)) ∧ w = w' := by
  by_cases h1 : 0 ≤ x
  · by_cases h2 : x ≤ 256
    · have HR : Hid (inB x 0 256 = true) := inB_t (by omega)
      go_enter Try.func21, Try.ntmps21
      go_wp2
      go_ret
      exact ⟨ret_bool HR.out.symm, rfl⟩
    · have HR : Hid (inB x 0 256 = false) := inB_f (by omega)
      go_enter Try.func21, Try.ntmps21
      go_wp2
      go_ret
      exact ⟨ret_bool HR.out.symm, rfl⟩
  · have HR : Hid (inB x 0 256 = false) := inB_f (by omega)
    go_enter Try.func21, Try.ntmps21
    go_wp2
    go_ret
    exact ⟨ret_bool HR.out.symm, rfl⟩

set_option maxHeartbeats 1000000 in
theorem pAreCpus_any (w : World) (x : Int) :
    Calls Try.prog 22 #[.int .i64 x] w fun e w' => e = .returned (.bool (inB x 1 4)) ∧ w = w' := by
  by_cases h1 : 1 ≤ x
  · by_cases h2 : x ≤ 4
    · have HR : Hid (inB x 1 4 = true) := inB_t (by omega)
      go_enter Try.func22, Try.ntmps22
      go_wp2
      go_ret
      exact ⟨ret_bool HR.out.symm, rfl⟩
    · have HR : Hid (inB x 1 4 = false) := inB_f (by omega)
      go_enter Try.func22, Try.ntmps22
      go_wp2
      go_ret
      exact ⟨ret_bool HR.out.symm, rfl⟩
  · have HR : Hid (inB x 1 4 = false) := inB_f (by omega)
    go_enter Try.func22, Try.ntmps22
    go_wp2
    go_ret
    exact ⟨ret_bool HR.out.symm, rfl⟩

set_option maxHeartbeats 1000000 in
theorem pIsOrder_any (w : World) (x : Int) :
    Calls Try.prog 66 #[.int .i64 x] w fun e w' => e = .returned (.bool (inB x 0 4)) ∧ w = w' := by
  by_cases h1 : 0 ≤ x
  · by_cases h2 : x ≤ 4
    · have HR : Hid (inB x 0 4 = true) := inB_t (by omega)
      go_enter Try.func66, Try.ntmps66
      go_wp2
      go_ret
      exact ⟨ret_bool HR.out.symm, rfl⟩
    · have HR : Hid (inB x 0 4 = false) := inB_f (by omega)
      go_enter Try.func66, Try.ntmps66
      go_wp2
      go_ret
      exact ⟨ret_bool HR.out.symm, rfl⟩
  · have HR : Hid (inB x 0 4 = false) := inB_f (by omega)
    go_enter Try.func66, Try.ntmps66
    go_wp2
    go_ret
    exact ⟨ret_bool HR.out.symm, rfl⟩

set_option maxHeartbeats 1000000 in
theorem pIsType_any (w : World) (x : Int) :
    Calls Try.prog 67 #[.int .i64 x] w fun e w' => e = .returned (.bool (inB x 0 2)) ∧ w = w' := by
  by_cases h1 : 0 ≤ x
  · by_cases h2 : x < 3
    · have HR : Hid (inB x 0 2 = true) := inB_t (by omega)
      go_enter Try.func67, Try.ntmps67
      go_wp2
      go_ret
      exact ⟨ret_bool HR.out.symm, rfl⟩
    · have HR : Hid (inB x 0 2 = false) := inB_f (by omega)
      go_enter Try.func67, Try.ntmps67
      go_wp2
      go_ret
      exact ⟨ret_bool HR.out.symm, rfl⟩
  · have HR : Hid (inB x 0 2 = false) := inB_f (by omega)
    go_enter Try.func67, Try.ntmps67
    go_wp2
    go_ret
    exact ⟨ret_bool HR.out.symm, rfl⟩

set_option maxHeartbeats 1000000 in
theorem pIsCpu_any (w : World) (a b c d : Value) (n x : Int) :
    Calls Try.prog 45 #[.agg #[a, b, .int .i64 n, c, d], .int .i64 x] w fun e w' => e = .returned (.bool (inB x 0 (n - 1))) ∧ Below w.heap.size w w' := by
  have hb1 := below_box w (.cells #[a, b, .int .i64 n, c, d] 28)
  by_cases h1 : 0 ≤ x
  · by_cases h2 : x < n
    · have HR : Hid (inB x 0 (n - 1) = true) := inB_t (by omega)
      go_enter Try.func45, Try.ntmps45
      go_wp2
      go_ret
      exact ⟨ret_bool HR.out.symm, hb1⟩
    · have HR : Hid (inB x 0 (n - 1) = false) := inB_f (by omega)
      go_enter Try.func45, Try.ntmps45
      go_wp2
      go_ret
      exact ⟨ret_bool HR.out.symm, hb1⟩
  · have HR : Hid (inB x 0 (n - 1) = false) := inB_f (by omega)
    go_enter Try.func45, Try.ntmps45
    go_wp2
    go_ret
    exact ⟨ret_bool HR.out.symm, hb1⟩

set_option maxHeartbeats 1000000 in
theorem pIsPage_any (w : World) (f t x : Int) (u v : Value) :
    Calls Try.prog 80 #[.agg #[.int .i64 f, .int .i64 t, u, v], .int .i64 x] w fun e w' => e = .returned (.bool (inB x f (t - 1))) ∧ Below w.heap.size w w' := by
  have hb1 := below_box w (.cells #[.int .i64 f, .int .i64 t, u, v] 44)
  by_cases h1 : f ≤ x
  · by_cases h2 : x < t
    · have HR : Hid (inB x f (t - 1) = true) := inB_t (by omega)
      go_enter Try.func80, Try.ntmps80
      go_wp2
      go_ret
      exact ⟨ret_bool HR.out.symm, hb1⟩
    · have HR : Hid (inB x f (t - 1) = false) := inB_f (by omega)
      go_enter Try.func80, Try.ntmps80
      go_wp2
      go_ret
      exact ⟨ret_bool HR.out.symm, hb1⟩
  · have HR : Hid (inB x f (t - 1) = false) := inB_f (by omega)
    go_enter Try.func80, Try.ntmps80
    go_wp2
    go_ret
    exact ⟨ret_bool HR.out.symm, hb1⟩


/-- Which of two numbers is the greater one. -/
def cmpI (a b : Int) : Int := if a < b then -1 else if b < a then 1 else 0
/-- The first number that is not 0. -/
def orL : List Int → Int
  | [] => 0
  | x :: l => if x = 0 then orL l else x

theorem cmpNaN_any (w : World) (x : Int) : Calls Try.prog 100 #[.int .i64 x] w fun e w' => e = .returned (.bool false) ∧ w = w' := by
  have q : (x == x) = true := by simp
  go_enter Try.func100, Try.ntmps100
  go_wp2
  go_ret
  exact ⟨rfl, rfl⟩

theorem cmpCompare_any (w : World) (a b : Int) : Calls Try.prog 82 #[.int .i64 a, .int .i64 b] w fun e w' => e = .returned (.int .i64 (cmpI a b)) ∧ w = w' := by
  have HN := cmpNaN_any
  rcases (show a < b ∨ b < a ∨ a = b by omega) with h | h | h
  · have HR : Hid (cmpI a b = -1) := by show _ = _; unfold cmpI; rw [if_pos h]
    go_enter Try.func82, Try.ntmps82
    go_wp2_with (go_at_call 100; refine (HN _ _).mono ?_; rintro e w' ⟨rfl, rfl⟩)
    go_ret
    exact ⟨by rw [HR.out]; rfl, rfl⟩
  · have HR : Hid (cmpI a b = 1) := by show _ = _; unfold cmpI; rw [if_neg (by omega), if_pos h]
    go_enter Try.func82, Try.ntmps82
    go_wp2_with (go_at_call 100; refine (HN _ _).mono ?_; rintro e w' ⟨rfl, rfl⟩)
    go_ret
    exact ⟨by rw [HR.out]; rfl, rfl⟩
  · have HR : Hid (cmpI a b = 0) := by show _ = _; unfold cmpI; rw [if_neg (by omega), if_neg (by omega)]
    subst h
    go_enter Try.func82, Try.ntmps82
    go_wp2_with (go_at_call 100; refine (HN _ _).mono ?_; rintro e w' ⟨rfl, rfl⟩)
    go_ret
    exact ⟨by rw [HR.out]; rfl, rfl⟩

set_option maxHeartbeats 1000000 in
theorem cmpOr_any (w : World) (ao : Option Addr) (n cap : Nat) (xs : List Int) (h : Nums w ao n xs) : Calls Try.prog 81 #[.slice ao n cap] w fun e w' => e = .returned (.int .i64 (orL xs)) ∧ w = w' := by
  have hn := h.len
  have hr := h.reach
  have hx := h.at_
  clear h
  go_enter Try.func81, Try.ntmps81
  go_wp2
  go_loopw [8] (fun i wr => ∃ k : Nat, k ≤ n ∧ i = .int .i64 k ∧ Hid (orL xs = orL (xs.drop k)) ∧ w = wr) (fun i _ => n - (intOf i).toNat)
  case atStart => exact ⟨0, Nat.zero_le _, rfl, rfl, rfl⟩
  case round =>
    obtain ⟨k, hk, rfl, hO, rfl⟩ := hrel
    by_cases hlt : k < n
    · obtain ⟨b, off, x, rfl, c0, hX⟩ := hx.at k (by omega)
      have hd : xs.drop k = x :: xs.drop (k + 1) := by
        rw [List.drop_eq_getElem_cons (by omega)]
        congr 1
        have := hX.out
        rw [List.getD_eq_getElem?_getD, List.getElem?_eq_getElem (by omega)] at this
        exact this
      by_cases h0 : x = 0
      · have HO : Hid (orL xs = orL (xs.drop (k + 1))) := by show _ = _; rw [hO.out, hd]; show (if x = 0 then _ else x) = _; rw [if_pos h0]
        subst h0
        clear hO hd hX
        go_wp2
        go_roundw
        case rel => exact ⟨k + 1, by omega, by go_num, HO, trivial⟩
        case measure => simp [intOf]; omega
      · have HO : Hid (orL xs = x) := by show _ = _; rw [hO.out, hd]; show (if x = 0 then _ else x) = _; rw [if_neg h0]
        have h0' : (x == 0) = false := by simpa using h0
        clear hO hd hX
        go_wp2
        go_ret
        exact ⟨by rw [HO.out]; rfl, rfl⟩
    · have HO : Hid (orL xs = 0) := by show _ = _; rw [hO.out, List.drop_eq_nil_of_le (by omega)]; rfl
      clear hO
      go_wp2
      go_ret
      exact ⟨by rw [HO.out]; rfl, rfl⟩

end Go.Proofs.Ytbjlbmofdnkmiaa

/-
  OWN TEXT. Contracts of the code: the marks of pages: add, addBlocks.
-/
namespace Go.Proofs.Ytbjlbmofdnkmiaa
open Go Go.RowKit Go.Proofs.Ytbjlbmofdnkmiaa.Kit

/-- Pages were not marked, and are; or one was. -/
def Added (w' : World) (b : Nat) (h0 : Int → Bool) (a s : Nat) (e : Ending) : Prop :=
  (e = .returned (.bool true) ∧ (∀ p : Int, a ≤ p → p < a + s → h0 p = false) ∧ MarksAt w' b 92 (setH a s true h0)) ∨ (e = .returned (.bool false) ∧ ∃ p : Int, a ≤ p ∧ p < a + s ∧ h0 p = true)

set_option maxHeartbeats 2000000 in
set_option maxRecDepth 4000 in
theorem pAdd_any (w : World) (b : Nat) (h0 : Int → Bool) (a s : Nat) (hm : MarksAt w b 92 h0) (hfs : a + s ≤ 256) :
    Calls Try.prog 69 #[.pointer (some ⟨b, 0, none⟩), .int .i64 a, .int .i64 s] w fun e w' => Added w' b h0 a s e ∧ But b w w' := by
  have hlt := hm.lt
  go_enter Try.func69, Try.ntmps69
  go_wp2
  go_loopw [9] (fun i wr => ∃ k : Nat, k ≤ s ∧ i = .int .i64 k ∧ Hid (∀ p : Int, a ≤ p → p < a + k → h0 p = false) ∧ MarksAt wr b 92 (setH a k true h0) ∧ But b w wr) (fun i _ => s - (intOf i).toNat)
  case atStart => exact ⟨0, Nat.zero_le _, rfl, (fun p h1 h2 => by omega), (show w.heap[b]? = some (.cells (mk (setH (a : Int) (0 : Int) true h0)) _ _) by rw [mk_set0]; exact hm), But.refl _ _⟩
  case round =>
    obtain ⟨k, hk, rfl, hN, hM, hB⟩ := hrel
    by_cases hk1 : k < s
    · have c1 := hM.cell (a + k) (by omega)
      have c2 := hM.fz (a + k)
      have hM' := hM.set (by omega)
      have hB' := hB.setCell (o := a + k) (.bool true)
      have e0 : setH a k true h0 ((a + k : Nat) : Int) = h0 ((a + k : Nat) : Int) := by unfold setH; rw [if_neg (by omega)]
      rw [e0] at c1
      cases hv : h0 ((a + k : Nat) : Int) with
      | true =>
        rw [hv] at c1
        have HF : Hid (∃ p : Int, a ≤ p ∧ p < a + s ∧ h0 p = true) := ⟨((a + k : Nat) : Int), by omega, by omega, hv⟩
        clear hM hM' hB' hN hm e0 hv
        go_wp2
        go_ret
        exact ⟨.inr ⟨rfl, HF.out⟩, hB⟩
      | false =>
        rw [hv] at c1
        have HN : Hid (∀ p : Int, a ≤ p → p < a + ((k + 1 : Nat) : Int) → h0 p = false) := fun p h1 h2 => by
          by_cases e : p = ((a + k : Nat) : Int)
          · rw [e]; exact hv
          · exact hN.out p h1 (by omega)
        clear hM hB hm hN e0 hv
        go_wp2
        go_roundw
        case rel => exact ⟨k + 1, by omega, by go_num, HN, hM', hB'⟩
        case measure => simp [intOf]; omega
    · obtain rfl : k = s := by omega
      go_wp2
      go_ret
      exact ⟨.inl ⟨rfl, hN.out, hM⟩, hB⟩

/-- Blocks are apart, and their pages marked; or they aren't. -/
def AddedL (w' : World) (b : Nat) (P l : List Bk) (e : Ending) : Prop :=
  (e = .returned (.bool true) ∧ Apt P l ∧ MarksAt w' b 92 (cov (P ++ l))) ∨ (e = .returned (.bool false) ∧ ¬ Apt P l)

theorem cov_set (P : List Bk) (c : Bk) (a s : Nat) (ha : (a : Int) = c.a) (hs : (s : Int) = pw c.o) (p : Int) : setH a s true (cov P) p = cov (P ++ [c]) p := by
  rw [cov_append, cov_one]
  unfold setH
  rw [ha, hs]
  by_cases h : c.a ≤ p ∧ p < c.a + pw c.o
  · rw [if_pos h, decide_eq_true h]; simp
  · rw [if_neg h, decide_eq_false h]; simp

theorem marks_cov {w : World} {b a s : Nat} {P : List Bk} {c : Bk} (ha : (a : Int) = c.a) (hs : (s : Int) = pw c.o) (h : MarksAt w b 92 (setH a s true (cov P))) : MarksAt w b 92 (cov (P ++ [c])) := by
  unfold MarksAt at h ⊢
  rw [h, mk_ext fun p _ => cov_set P c a s ha hs p]

set_option maxHeartbeats 2000000 in
set_option maxRecDepth 4000 in
theorem pAddBlocks_any (w : World) (b : Nat) (P l : List Bk) (ao : Option Addr) (n cap : Nat) (hm : MarksAt w b 92 (cov P)) (hl : Blks w ao n l) (hI : ∀ i, i < l.length → InP (l.getD i .zero)) (hne : 0 < n → ∀ a, ao = some a → a.block ≠ b) :
    Calls Try.prog 68 #[.pointer (some ⟨b, 0, none⟩), .slice ao n cap] w fun e w' => AddedL w' b P l e ∧ But b w w' := by
  have hn := hl.len
  have hr := hl.reach
  have hI' : Hid _ := hI
  clear hI
  go_enter Try.func68, Try.ntmps68
  go_wp2
  go_loopw [9] (fun i wr => ∃ k : Nat, k ≤ n ∧ i = .int .i64 k ∧ Hid (Apt P (l.take k)) ∧ MarksAt wr b 92 (cov (P ++ l.take k)) ∧ But b w wr) (fun i _ => n - (intOf i).toNat)
  case atStart => exact ⟨0, Nat.zero_le _, rfl, (by show Apt P _; simpa using apt_nil P), by simpa using hm, But.refl _ _⟩
  case round =>
    obtain ⟨k, hk, rfl, hA, hM, hB⟩ := hrel
    by_cases hlt : k < n
    · obtain ⟨g, off, a, o, t, ha, c0, c1, c2, HX⟩ := (hB.blks hl (hne (by omega))).at_.at k (by omega)
      have hin := hI'.out k (by omega)
      rw [HX.out] at hin
      obtain ⟨h1, h2, h3⟩ := hin
      dsimp only at h1 h2 h3
      subst ha
      have hbb := below_box wr (.cells #[.int .i64 a, .int .i64 o, .int .i64 t] 63)
      have y0 : (wr.alloc (.cells #[.int .i64 a, .int .i64 o, .int .i64 t] 63)).cell? ⟨wr.heap.size, 0, none⟩ = some (.int .i64 a) := by go_simp
      have y1 : (wr.alloc (.cells #[.int .i64 a, .int .i64 o, .int .i64 t] 63)).cell? ⟨wr.heap.size, 1, none⟩ = some (.int .i64 o) := by go_simp
      obtain ⟨Wb, hWb⟩ : ∃ Wb, wr.alloc (.cells #[.int .i64 a, .int .i64 o, .int .i64 t] 63) = Wb := ⟨_, rfl⟩
      rw [hWb] at hbb y0 y1
      have HWb : Hid _ := hWb
      have hMb := hM.below hbb
      have hBb := hB.trans (But.of_below hbb)
      clear hWb
      have hp := pw_pos o
      have hp16 := pw_le h1
      have hw1 : IntKind.i64.wrap ((2 : Int) ^ o.toNat) = pw o := by rcases ord_cases h1 with ⟨rfl, e⟩ | ⟨rfl, e⟩ | ⟨rfl, e⟩ | ⟨rfl, e⟩ | ⟨rfl, e⟩ <;> (rw [e]; rfl)
      obtain ⟨S, hS⟩ : ∃ S : Nat, pw o = S := ⟨(pw o).toNat, by omega⟩
      obtain ⟨A, hA'⟩ : ∃ A : Nat, a = A := ⟨a.toNat, by omega⟩
      have HS : Hid (pw o = S) := hS
      rw [hS] at hp hp16 hw1 h3
      obtain ⟨o0, o4⟩ := id h1
      have HA' : Hid (a = A) := hA'
      rw [hA'] at y0 h3
      have hAdd := fun W (hm : MarksAt W b 92 (cov (P ++ l.take k))) => pAdd_any W b _ A S hm (by omega)
      have HAd : Hid _ := hAdd
      clear hS hAdd hA'
      go_wp2_with (rw [HWb.out])
      clear HWb c0 c1 c2
      have hSB : Below Wb.heap.size Wb { Wb with drawn := Wb.drawn + 1 } := (Below.refl Wb.heap.size Wb).drew
      have SB : But b Wb { Wb with drawn := Wb.drawn + 1 } := But.of_below hSB
      have hbn : wr.heap.size ≠ b := by have := hM.lt; omega
      have m0 : ∀ wx, But b Wb wx → wx.cell? ⟨wr.heap.size, 0, none⟩ = some (.int .i64 (A : Int)) := fun wx h => h.cell y0 hbn
      have m1 : ∀ wx, But b Wb wx → wx.cell? ⟨wr.heap.size, 1, none⟩ = some (.int .i64 o) := fun wx h => h.cell y1 hbn
      refine wp_region_peel (S := fun wx => But b Wb wx) 7 _ (by kernel_rfl) (by kernel_rfl) rfl ?_
      simp only [List.take_succ_cons, List.take_zero]
      refine takeH 0 (v := .pointer (some ⟨b, 0, none⟩)) rfl (by kernel_rfl) (by kernel_rfl) (by kernel_rfl) (fun _ _ _ h => h) rfl (fun wx hSx => ?_) SB ?_
      · go_simp
      try simp only [Act.put, List.setIfInBounds_toArray, List.set_cons_zero, List.set_cons_succ]
      refine takeH 1 (v := .pointer (some ⟨wr.heap.size, 0, none⟩)) rfl (by kernel_rfl) (by kernel_rfl) (by kernel_rfl) (fun _ _ _ h => h) rfl (fun wx hSx => ?_) SB ?_
      · go_simp
      try simp only [Act.put, List.setIfInBounds_toArray, List.set_cons_zero, List.set_cons_succ]
      refine takeH 2 (v := .int .i64 (A : Int)) rfl (by kernel_rfl) (by kernel_rfl) (by kernel_rfl) (fun _ _ _ h => h) rfl (fun wx hSx => ?_) SB ?_
      · go_simp
      try simp only [Act.put, List.setIfInBounds_toArray, List.set_cons_zero, List.set_cons_succ]
      refine takeH 3 (v := .pointer (some ⟨wr.heap.size, 1, none⟩)) rfl (by kernel_rfl) (by kernel_rfl) (by kernel_rfl) (fun _ _ _ h => h) rfl (fun wx hSx => ?_) SB ?_
      · go_simp
      try simp only [Act.put, List.setIfInBounds_toArray, List.set_cons_zero, List.set_cons_succ]
      refine takeH 4 (v := .int .i64 o) rfl (by kernel_rfl) (by kernel_rfl) (by kernel_rfl) (fun _ _ _ h => h) rfl (fun wx hSx => ?_) SB ?_
      · go_simp
      try simp only [Act.put, List.setIfInBounds_toArray, List.set_cons_zero, List.set_cons_succ]
      refine takeH 5 (v := .int .i64 (S : Int)) rfl (by kernel_rfl) (by kernel_rfl) (by kernel_rfl) (fun _ _ _ h => h) rfl (fun wx hSx => ?_) SB ?_
      · go_simp
      try simp only [Act.put, List.setIfInBounds_toArray, List.set_cons_zero, List.set_cons_succ]
      refine oneH 6 (by kernel_rfl) rfl rfl (fun K1 hK1 => ?_)
      go_simp
      refine (HAd.out _ (hMb.below hSB)).mono ?_
      rintro e wA ⟨hAd, hbA⟩
      have SA : But b Wb wA := (But.of_below hSB).trans hbA
      have hBA := hBb.trans SA
      rcases hAd with ⟨rfl, hfree, hM2⟩ | ⟨rfl, p, q1, q2, q3⟩
      · have hno : ¬ ovlP (P ++ l.take k) (l.getD k .zero).a (l.getD k .zero).o := by
          rw [HX.out, ← cov_ovl]
          rintro ⟨p, q1, q2, q3⟩
          dsimp only at q1 q2
          rw [HS.out, HA'.out] at q2
          rw [HA'.out] at q1
          rw [hfree p q1 q2] at q3
          cases q3
        have hA2 : Hid (Apt P (l.take (k + 1))) := (apt_take_succ P l k (by omega)).2 ⟨hA.out, hno⟩
        have hM3 := marks_cov (c := ⟨a, o, t⟩) HA'.out.symm HS.out.symm hM2
        rw [List.append_assoc, ← take_getD l k (by omega) HX.out] at hM3
        refine hK1 _ _ SA ?_
        try simp only [Act.put, List.setIfInBounds_toArray, List.set_cons_zero, List.set_cons_succ]
        refine wpAnyH_done (by kernel_rfl) ?_ _
        show Oper.wp _ _ _ _ _ _
        clear hno hM2 hfree hMb hM hA hK1 m0 m1 SA hbA HAd hBb hB y0 y1 hw1
        go_wp2
        go_roundw
        case rel => exact ⟨k + 1, by omega, by go_num, hA2, hM3, hBA⟩
        case measure => simp [intOf]; omega
      · have HF : Hid (¬ Apt P l) := fun hh => by
          have := ((apt_take_succ P l k (by omega)).1 (apt_take hh (k + 1))).2
          apply this
          rw [HX.out, ← cov_ovl]
          dsimp only
          rw [HS.out, HA'.out]
          exact ⟨p, q1, q2, q3⟩
        refine hK1 _ _ SA ?_
        try simp only [Act.put, List.setIfInBounds_toArray, List.set_cons_zero, List.set_cons_succ]
        refine wpAnyH_done (by kernel_rfl) ?_ _
        show Oper.wp _ _ _ _ _ _
        clear hMb hM hA hK1 m0 m1 SA hbA HAd hBb hB y0 y1 hw1 q3
        go_wp2
        go_ret
        exact ⟨.inr ⟨rfl, HF.out⟩, hBA⟩
    · have e : l.take k = l := List.take_of_length_le (by omega)
      rw [e] at hA hM
      go_wp2
      go_ret
      exact ⟨.inl ⟨rfl, hA.out, hM⟩, hB⟩

end Go.Proofs.Ytbjlbmofdnkmiaa

/-
  OWN TEXT. Contracts of the code: pages.areApart.
-/
namespace Go.Proofs.Ytbjlbmofdnkmiaa
open Go Go.RowKit Go.Proofs.Ytbjlbmofdnkmiaa.Kit

theorem zero_pmarks (w : World) : (zeroValue 92).run Try.prog w = .ok (.agg (mk fun _ => false)) w := by kernel_rfl

/-- Free blocks of zones, one after the other. -/
def freeA (l : List Zc) : List Bk := l.flatMap fun z => z.z.free
/-- Pages of lists, one after the other. -/
def pageA (l : List Lc) : List Bk := l.flatMap fun x => x.l.pages.map pgB
theorem placed_eq (x : Hx) : placed x.hp = freeA x.zs ++ (pageA x.ls ++ x.live) := by
  unfold placed freeA pageA Hx.hp
  simp [List.flatMap_map]
theorem flatMap_take {α β : Type} (l : List α) (f : α → List β) (k : Nat) (h : k < l.length) (d : α) : (l.take (k + 1)).flatMap f = (l.take k).flatMap f ++ f (l.getD k d) := by
  rw [List.take_succ_eq_append_getElem h, List.flatMap_append, List.getD_eq_getElem?_getD, List.getElem?_eq_getElem h]
  simp
theorem flatMap_split {α β : Type} (l : List α) (f : α → List β) (k : Nat) : l.flatMap f = (l.take k).flatMap f ++ (l.drop k).flatMap f := by
  rw [← List.flatMap_append, List.take_append_drop]
theorem apt_mid {P l R : List Bk} (h : Apt [] (P ++ (l ++ R))) : Apt P l := by
  have := ((apt_append [] P (l ++ R)).1 h).2
  exact ((apt_append _ l R).1 this).1
theorem map_take_succ (l : List Int) (k : Nat) (h : k < l.length) : (l.take (k + 1)).map pgB = (l.take k).map pgB ++ [pgB (l.getD k 0)] := by
  rw [List.take_succ_eq_append_getElem h, List.map_append, List.getD_eq_getElem?_getD, List.getElem?_eq_getElem h]
  simp

theorem Blks.lt {w : World} {ao : Option Addr} {n : Nat} {l : List Bk} (h : Blks w ao n l) (hn : 0 < n) : ∀ a, ao = some a → a.block < w.heap.size := by
  intro a ha
  obtain ⟨b, off, e, c, _, _⟩ := h.at_ 0 (by have := h.len; omega)
  rw [ha] at e
  cases e
  have := World.block_lt_of_cell? w _ c
  exact this

/-- What is there in the midst of areApart. -/
structure ApI (w W0 : World) (x : Hx) (P : List Bk) (wr : World) : Prop where
  b : Below w.heap.size w wr
  but : But (w.heap.size + 1) W0 wr
  m : MarksAt wr (w.heap.size + 1) 92 (cov P)
  box : HBox wr w.heap.size (.slice x.zo x.zn x.zc) (.slice x.mo x.mn x.mc) (.int .i64 x.cpus) (.slice x.lo x.ln x.lc) (.slice x.vo x.vn x.vc)
theorem ApI.below {w W0 : World} {x : Hx} {P : List Bk} {wr wr' : World} (h : ApI w W0 x P wr) (hb : Below wr.heap.size wr wr') : ApI w W0 x P wr' :=
  ⟨h.b.trans (hb.mono h.b.size), h.but.trans (But.of_below hb), h.m.below hb, h.box.below hb⟩
theorem ApI.step {w W0 : World} {x : Hx} {P Q : List Bk} {wr wr' : World} (h : ApI w W0 x P wr) (hb : But (w.heap.size + 1) wr wr') (hm : MarksAt wr' (w.heap.size + 1) 92 (cov Q)) : ApI w W0 x Q wr' :=
  ⟨h.b.trans (hb.below (by omega) h.b.size), h.but.trans hb, hm, h.box.but hb (by omega)⟩

set_option maxRecDepth 4000 in
set_option maxHeartbeats 4000000 in
theorem pApart_any (w : World) (x : Hx) (hx : x.At w) (hz : ∀ z ∈ x.zs, ∀ i, i < z.z.free.length → InP (z.z.free.getD i .zero)) (hl : ∀ l ∈ x.ls, ∀ i, i < l.l.pages.length → 0 ≤ l.l.pages.getD i 0 ∧ l.l.pages.getD i 0 < 256) (hv : ∀ i, i < x.live.length → InP (x.live.getD i .zero)) :
    Calls Try.prog 35 #[.agg #[.slice x.zo x.zn x.zc, .slice x.mo x.mn x.mc, .int .i64 x.cpus, .slice x.lo x.ln x.lc, .slice x.vo x.vn x.vc]] w fun e w' => RetIff e (Apt [] (placed x.hp)) ∧ Below w.heap.size w w' := by
  have HPl := placed_eq x
  obtain ⟨PL, hPL⟩ : ∃ PL, placed x.hp = PL := ⟨_, rfl⟩
  rw [hPL] at HPl ⊢
  have HP : Hid (PL = freeA x.zs ++ (pageA x.ls ++ x.live)) := HPl
  clear HPl hPL
  have hz' : Hid _ := hz
  have hl' : Hid _ := hl
  have hv' : Hid _ := hv
  have hb1 := below_box w (.cells #[.slice x.zo x.zn x.zc, .slice x.mo x.mn x.mc, .int .i64 x.cpus, .slice x.lo x.ln x.lc, .slice x.vo x.vn x.vc] 28)
  have A1 := hbox_new w (.slice x.zo x.zn x.zc) (.slice x.mo x.mn x.mc) (.int .i64 x.cpus) (.slice x.lo x.ln x.lc) (.slice x.vo x.vn x.vc) 28
  have hs1 : (w.alloc (.cells #[.slice x.zo x.zn x.zc, .slice x.mo x.mn x.mc, .int .i64 x.cpus, .slice x.lo x.ln x.lc, .slice x.vo x.vn x.vc] 28)).heap.size = w.heap.size + 1 := by simp
  have hzm := zero_pmarks
  obtain ⟨Z, hZ⟩ : ∃ Z, mk (fun _ => false) = Z := ⟨_, rfl⟩
  rw [hZ] at hzm
  obtain ⟨W0, hW0⟩ : ∃ W0, (w.alloc (.cells #[.slice x.zo x.zn x.zc, .slice x.mo x.mn x.mc, .int .i64 x.cpus, .slice x.lo x.ln x.lc, .slice x.vo x.vn x.vc] 28)).alloc (.cells Z 92) = W0 := ⟨_, rfl⟩
  have hb2 : Below w.heap.size w W0 := by rw [← hW0]; exact hb1.trans ((below_box _ _).mono hb1.size)
  have I0 : ApI w W0 x [] W0 := by
    refine ⟨hb2, But.refl _ _, ?_, by rw [← hW0]; exact A1.below (below_box _ _)⟩
    show W0.heap[w.heap.size + 1]? = some (Obj.cells (mk (cov [])) _ _)
    have e : mk (cov []) = Z := by rw [← hZ]; exact mk_ext fun p _ => rfl
    rw [e, ← hW0]
    have := heap_alloc_new (w.alloc (.cells #[.slice x.zo x.zn x.zc, .slice x.mo x.mn x.mc, .int .i64 x.cpus, .slice x.lo x.ln x.lc, .slice x.vo x.vn x.vc] 28)) (.cells Z 92)
    rw [hs1] at this
    exact this
  have HW0 : Hid _ := hW0
  have a0 := A1.c0
  have i0 := I0.box.c0
  obtain ⟨zo, hzo⟩ : ∃ zo, x.zo = zo := ⟨_, rfl⟩
  obtain ⟨lo, hlo⟩ : ∃ lo, x.lo = lo := ⟨_, rfl⟩
  have hZs := hx.zones
  have hLs := hx.lists
  rw [hzo] at hZs i0
  rw [hlo] at hLs
  have HZO : Hid (x.zo = zo) := hzo
  have HLO : Hid (x.lo = lo) := hlo
  have rz := hZs.reach
  have rl := hLs.reach
  have HNo : Hid (∀ e, (e = Ending.returned (.bool false)) → ¬ Apt [] PL → RetIff e (Apt [] PL)) := fun e he hn => ⟨false, he, by simp [hn]⟩
  clear hz hl hv hb1 A1 hs1 hW0 a0
  rw [hzo, hlo]
  rw [hzo, hlo] at HW0
  clear hzo hlo
  go_enter Try.func35, Try.ntmps35
  go_wp2_with (rw [HW0.out])
  clear HW0 hzm hZ i0
  go_loopw [13] (fun iv wr => ∃ k : Nat, k ≤ x.zn ∧ iv = .int .i64 k ∧ Hid (Apt [] (freeA (x.zs.take k))) ∧ ApI w W0 x (freeA (x.zs.take k)) wr) (fun iv _ => x.zn - (intOf iv).toNat)
  case atStart => exact ⟨0, Nat.zero_le _, rfl, (by show Apt [] _; exact apt_nil []), I0⟩
  case round =>
    obtain ⟨k, hk, rfl, hA, I⟩ := hrel
    clear I0
    by_cases hlt : k < x.zn
    · obtain ⟨g, off, z, fo, fn, fc, to_, tn, tc, ha, c0, c1, c2, c3, hat, hX⟩ := (hZs.below I.b).at k hlt
      subst ha
      have hbb := below_box wr (.cells #[.int .i64 z.f, .int .i64 z.t, .slice fo fn fc, .slice to_ tn tc] 44)
      have ZB := zbox_new wr (.int .i64 z.f) (.int .i64 z.t) (.slice fo fn fc) (.slice to_ tn tc) 44
      have hatw : Blks w fo fn z.free := by
        have := hZs.at_ _ (getD_mem (d := Zc.zero) (show k < x.zs.length by have := hZs.len; omega))
        rw [hX.out] at this
        exact ZnAt.free this
      have Ib := I.below hbb
      have HAd := pAddBlocks_any _ (w.heap.size + 1) (freeA (x.zs.take k)) z.free fo fn fc Ib.m (hatw.below Ib.b) (fun i hi => by
          have := hz'.out _ (getD_mem (d := Zc.zero) (show k < x.zs.length by have := hZs.len; omega)) i (by rw [hX.out]; exact hi)
          rw [hX.out] at this
          exact this) (fun hn a ha => by have := Blks.lt hatw hn a ha; omega)
      obtain ⟨Wb, hWb⟩ : ∃ Wb, wr.alloc (.cells #[.int .i64 z.f, .int .i64 z.t, .slice fo fn fc, .slice to_ tn tc] 44) = Wb := ⟨_, rfl⟩
      rw [hWb] at hbb ZB Ib HAd
      have HWb : Hid _ := hWb
      have y2 := ZB.c2
      clear hWb
      go_wp2_with (rw [HWb.out])
      go_at_call 68
      refine HAd.mono ?_
      rintro e W2 ⟨hAd, hb2'⟩
      have e1 : freeA (x.zs.take (k + 1)) = freeA (x.zs.take k) ++ z.free := by
        unfold freeA
        rw [flatMap_take x.zs _ k (by have := hZs.len; omega) .zero, hX.out]
      rcases hAd with ⟨rfl, hA2, hM2⟩ | ⟨rfl, hA2⟩
      · have I2 := Ib.step hb2' hM2
        rw [← e1] at I2
        have HA2 : Hid (Apt [] (freeA (x.zs.take (k + 1)))) := by show Apt [] _; rw [e1, apt_append]; exact ⟨hA.out, hA2⟩
        clear HAd hA hA2 hM2 I Ib hbb ZB c0 c1 c2 c3 hat y2 HWb e1
        go_wp2
        go_roundw
        case rel => exact ⟨k + 1, by omega, by go_num, HA2, I2⟩
        case measure => simp [intOf]; omega
      · have HF : Hid (¬ Apt [] PL) := fun h => by
          apply hA2
          rw [HP.out] at h
          have e2 : freeA x.zs = freeA (x.zs.take k) ++ (z.free ++ freeA (x.zs.drop (k + 1))) := by
            rw [← List.append_assoc, ← e1]
            exact flatMap_split _ _ _
          rw [e2, List.append_assoc, List.append_assoc] at h
          exact apt_mid h
        have hBB := Ib.b.trans (hb2'.below (by omega) Ib.b.size)
        clear HAd hA hA2 I Ib hbb ZB c0 c1 c2 c3 hat y2 HWb e1
        go_wp2
        go_ret
        exact ⟨HNo.out _ rfl HF.out, hBB⟩
    · have e0 : x.zs.take k = x.zs := List.take_of_length_le (by have := hZs.len; omega)
      rw [e0] at hA I
      have a3 := I.box.c3
      rw [HLO.out] at a3
      go_wp2_with fail
      clear a3 hlt hk e0
      go_loopw [25] (fun iv wr => ∃ k : Nat, k ≤ x.ln ∧ iv = .int .i64 k ∧ Hid (Apt [] (freeA x.zs ++ pageA (x.ls.take k))) ∧ ApI w W0 x (freeA x.zs ++ pageA (x.ls.take k)) wr) (fun iv _ => x.ln - (intOf iv).toNat)
      case atStart => exact ⟨0, Nat.zero_le _, rfl, (by show Apt [] _; simpa [pageA] using hA.out), by simpa [pageA] using I⟩
      case round =>
        clear hA I
        obtain ⟨k, hk, rfl, hA, I⟩ := hrel
        by_cases hlt : k < x.ln
        · obtain ⟨g, off, c, z, t, pages, po, pn, pc, ha, c0, c1, c2, c3, hat, hX⟩ := (hLs.below I.b).at k hlt
          subst ha
          have hbb := below_box wr (.cells #[.int .i64 c, .int .i64 z, .int .i64 t, .slice po pn pc] 57)
          have ZB := zbox_new wr (.int .i64 c) (.int .i64 z) (.int .i64 t) (.slice po pn pc) 57
          have hatw : Nums w po pn pages := by
            have := hLs.at_ _ (getD_mem (d := Lc.zero) (show k < x.ls.length by have := hLs.len; omega))
            rw [hX.out] at this
            exact this
          have hpg : Hid (∀ i, i < pages.length → 0 ≤ pages.getD i 0 ∧ pages.getD i 0 < 256) := fun i hi => by
            have := hl'.out _ (getD_mem (d := Lc.zero) (show k < x.ls.length by have := hLs.len; omega)) i (by rw [hX.out]; exact hi)
            rw [hX.out] at this
            exact this
          have e1 : pageA (x.ls.take (k + 1)) = pageA (x.ls.take k) ++ pages.map pgB := by
            unfold pageA
            rw [flatMap_take x.ls _ k (by have := hLs.len; omega) .zero, hX.out]
          have Ib := I.below hbb
          obtain ⟨Wb, hWb⟩ : ∃ Wb, wr.alloc (.cells #[.int .i64 c, .int .i64 z, .int .i64 t, .slice po pn pc] 57) = Wb := ⟨_, rfl⟩
          rw [hWb] at hbb ZB Ib
          have HWb : Hid _ := hWb
          have y3 := ZB.c3
          have rp := hatw.reach
          have HE1 : Hid _ := e1
          clear hWb e1
          go_wp2_with (rw [HWb.out])
          clear HWb c0 c1 c2 c3 y3 ZB hbb hat I
          go_loopw [32] (fun iv wr => ∃ j : Nat, j ≤ pn ∧ iv = .int .i64 j ∧ Hid (Apt [] (freeA x.zs ++ pageA (x.ls.take k) ++ (pages.take j).map pgB)) ∧ ApI w W0 x (freeA x.zs ++ pageA (x.ls.take k) ++ (pages.take j).map pgB) wr) (fun iv _ => pn - (intOf iv).toNat)
          case atStart => exact ⟨0, Nat.zero_le _, rfl, (by show Apt [] _; simpa using hA.out), by simpa using Ib⟩
          case round =>
            clear hA Ib
            obtain ⟨j, hj, rfl, hA, I⟩ := hrel
            by_cases hjl : j < pn
            · obtain ⟨g2, off2, p, ha2, c0, hP⟩ := (hatw.below I.b).at_.at j (by have := hatw.len; omega)
              subst ha2
              have hpp := hpg.out j (by have := hatw.len; omega)
              rw [hP.out] at hpp
              obtain ⟨A, hAA⟩ : ∃ A : Nat, p = A := ⟨p.toNat, by omega⟩
              have HAd := pAdd_any wr (w.heap.size + 1) _ A 1 I.m (by omega)
              rw [hAA] at c0
              have HAA : Hid (p = A) := hAA
              clear hAA hpp
              go_wp2_with fail
              go_at_call 69
              refine HAd.mono ?_
              rintro e W2 ⟨hAd, hb2'⟩
              have e2 : (pages.take (j + 1)).map pgB = (pages.take j).map pgB ++ [pgB p] := by rw [map_take_succ pages j (by have := hatw.len; omega), hP.out]
              rcases hAd with ⟨rfl, hfree, hM2⟩ | ⟨rfl, q, q1, q2, q3⟩
              · have hM3 := marks_cov (c := pgB p) HAA.out.symm (by show ((1 : Nat) : Int) = pw 0; rfl) hM2
                have I2 := I.step hb2' hM3
                rw [List.append_assoc, ← e2] at I2
                have HA2 : Hid (Apt [] (freeA x.zs ++ pageA (x.ls.take k) ++ (pages.take (j + 1)).map pgB)) := by
                  show Apt [] _
                  rw [e2, ← List.append_assoc, apt_append, apt_one]
                  refine ⟨hA.out, ?_⟩
                  rw [List.nil_append, ← cov_ovl]
                  rintro ⟨q, q1, q2, q3⟩
                  have e3 : pw (pgB p).o = 1 := rfl
                  have e4 : (pgB p).a = p := rfl
                  rw [e3, e4] at q2
                  rw [e4] at q1
                  rw [HAA.out] at q1 q2
                  rw [hfree q q1 (by omega)] at q3
                  cases q3
                clear HAd hA hfree hM2 hM3 I c0 e2
                go_wp2
                go_roundw
                case rel => exact ⟨j + 1, by omega, by go_num, HA2, I2⟩
                case measure => simp [intOf]; omega
              · have HF : Hid (¬ Apt [] PL) := fun h => by
                  have e5 : pages.map pgB = (pages.take j).map pgB ++ ([pgB p] ++ (pages.drop (j + 1)).map pgB) := by
                    rw [← List.append_assoc, ← e2, ← List.map_append, List.take_append_drop]
                  have e6 : pageA x.ls = pageA (x.ls.take k) ++ (pages.map pgB ++ pageA (x.ls.drop (k + 1))) := by
                    rw [← List.append_assoc, ← HE1.out]
                    exact flatMap_split _ _ _
                  rw [HP.out, e6, e5] at h
                  have e7 : freeA x.zs ++ (pageA (x.ls.take k) ++ ((pages.take j).map pgB ++ ([pgB p] ++ (pages.drop (j + 1)).map pgB) ++ pageA (x.ls.drop (k + 1))) ++ x.live) = (freeA x.zs ++ pageA (x.ls.take k) ++ (pages.take j).map pgB) ++ ([pgB p] ++ ((pages.drop (j + 1)).map pgB ++ pageA (x.ls.drop (k + 1)) ++ x.live)) := by simp [List.append_assoc]
                  rw [e7] at h
                  have h1 := apt_mid h
                  rw [apt_one, ← cov_ovl] at h1
                  apply h1
                  have e3 : pw (pgB p).o = 1 := rfl
                  have e4 : (pgB p).a = p := rfl
                  rw [e3, e4, HAA.out]
                  exact ⟨q, q1, by omega, q3⟩
                have hBB := I.b.trans (hb2'.below (by omega) I.b.size)
                clear HAd hA I c0 e2 q3
                go_wp2
                go_ret
                exact ⟨HNo.out _ rfl HF.out, hBB⟩
            · have e0 : pages.take j = pages := List.take_of_length_le (by have := hatw.len; omega)
              rw [e0, List.append_assoc, ← HE1.out] at hA I
              clear e0
              go_wp2
              go_roundw
              case rel => exact ⟨k + 1, by omega, by go_num, hA, I⟩
              case measure => simp [intOf]; omega
        · have e0 : x.ls.take k = x.ls := List.take_of_length_le (by have := hLs.len; omega)
          rw [e0] at hA I
          have a4 := I.box.c4
          have HAd := pAddBlocks_any _ (w.heap.size + 1) (freeA x.zs ++ pageA x.ls) x.live x.vo x.vn x.vc I.m (hx.live.below I.b) hv'.out (fun hn a ha => by have := Blks.lt hx.live hn a ha; omega)
          go_wp2_with fail
          go_at_call 68
          refine HAd.mono ?_
          rintro e W2 ⟨hAd, hb2'⟩
          have hBB := I.b.trans (hb2'.below (by omega) I.b.size)
          have HI : Hid (Apt [] PL ↔ Apt (freeA x.zs ++ pageA x.ls) x.live) := by
            show _ ↔ _
            rw [HP.out, ← List.append_assoc, apt_append]
            simp only [List.nil_append]
            exact ⟨fun h => h.2, fun h => ⟨hA.out, h⟩⟩
          rcases hAd with ⟨rfl, hA2, hM2⟩ | ⟨rfl, hA2⟩
          · have HY := HI.out.2 hA2
            have HY' : Hid _ := HY
            clear HAd hA hA2 hM2 I a4 HY HI e0
            go_wp2
            go_ret
            exact ⟨⟨true, rfl, fun _ => HY'.out, fun _ => rfl⟩, hBB⟩
          · have HF : Hid (¬ Apt [] PL) := fun h => hA2 (HI.out.1 h)
            clear HAd hA hA2 I a4 HI e0
            go_wp2
            go_ret
            exact ⟨HNo.out _ rfl HF.out, hBB⟩

end Go.Proofs.Ytbjlbmofdnkmiaa
