/-
  OWN TEXTS.
-/
import Derived.Test.YtjohdbiipeedkaaGreatDoorPart4
set_option maxRecDepth 10000
set_option maxHeartbeats 4000000
namespace Go.Proofs.YtjohdbiipeedkaaGreatDoor
open Go Go.RowKit Go.Proofs.YtjohdbiipeedkaaGreatDoor.Kit
def Off3 (p q r : Nat) (ao : Option Addr) : Prop := ∀ a, ao = some a → a.block ≠ p ∧ a.block ≠ q ∧ a.block ≠ r
structure HOwn (w : World) (B gz gl gv : Nat) (y : Hx) : Prop where
 oz : w.ownsRow B 54 4 (.slice y.zo y.zn y.zc) y.zn (c4 (y.zs.map Zc.q))
 ol : w.ownsRow B 69 4 (.slice y.lo y.ln y.lc) y.ln (c4 (y.ls.map Lc.q))
 ov : w.ownsRow B 40 3 (.slice y.vo y.vn y.vc) y.vn (bvals y.live)
 ez : y.zo = some ⟨gz, 0, none⟩
 el : ∀ a, y.lo = some a → a.block = gl
 ev : ∀ a, y.vo = some a → a.block = gv
 at_ : y.At w
 zl : gz ≠ gl
 zv : gz ≠ gv
 lv : gl ≠ gv
 zoff : ∀ z ∈ y.zs, Off3 gz gl gv z.fo ∧ Off3 gz gl gv z.to_ ∧ Fresh B z.fo ∧ Fresh B z.to_
 loff : ∀ l ∈ y.ls, Off3 gz gl gv l.po ∧ Fresh B l.po ∧ l.pc = l.pn
 moff : Off3 gz gl gv y.mo
 mfresh : Fresh B y.mo
 gzB : B ≤ gz
 glB : B ≤ gl
 gvB : B ≤ gv
structure Five (s t X gz gm gl gv : Nat) : Prop where
 x1 : s ≤ X
 z1 : s ≤ gz
 m1 : s ≤ gm
 l1 : s ≤ gl
 v1 : s ≤ gv
 x2 : X < t
 z2 : gz < t
 m2 : gm < t
 l2 : gl < t
 v2 : gv < t
 xz : X ≠ gz
 xm : X ≠ gm
 xl : X ≠ gl
 xv : X ≠ gv
 zm : gz ≠ gm
 zl : gz ≠ gl
 zv : gz ≠ gv
 ml : gm ≠ gl
 mv : gm ≠ gv
 lv : gl ≠ gv
structure HcI (W0 : World) (hb : Nat) (h : Hx) (X gz gm gl gv : Nat) (CZ CM CL CV : List Value) (W : World) : Prop where
 b : Below W0.heap.size W0 W
 hin : HBox W hb (.slice h.zo h.zn h.zc) (.slice h.mo h.mn h.mc) (.int .i64 h.cpus) (.slice h.lo h.ln h.lc) (.slice h.vo h.vn h.vc)
 res : HBox W (hb + 1) (.slice none 0 0) (.slice none 0 0) (.int .i64 0) (.slice none 0 0) (.slice none 0 0)
 box : HBox W X (.slice (some ⟨gz, 0, none⟩) h.zn h.zn) (.slice (some ⟨gm, 0, none⟩) h.mn h.mn) (.int .i64 h.cpus) (.slice (some ⟨gl, 0, none⟩) h.ln h.ln) (.slice (some ⟨gv, 0, none⟩) h.vn h.vn)
 rz : W.heap[gz]? = some (.cells CZ.toArray 54 (0, 0))
 rm : W.heap[gm]? = some (.cells CM.toArray 3 (0, 0))
 rl : W.heap[gl]? = some (.cells CL.toArray 69 (0, 0))
 rv : W.heap[gv]? = some (.cells CV.toArray 40 (0, 0))
theorem lt_of_row {W : World} {g : Nat} {o : Obj} (h : W.heap[g]? = some o) : g < W.heap.size := (Array.getElem?_eq_some_iff.1 h).1
section
variable {W0 : World} {hb : Nat} {h : Hx} {X gz gm gl gv : Nat} {CZ CM CL CV : List Value} {W W' : World} {s t : Nat}
theorem HcI.below (I : HcI W0 hb h X gz gm gl gv CZ CM CL CV W) (hB : Below W.heap.size W W') : HcI W0 hb h X gz gm gl gv CZ CM CL CV W' :=
 ⟨I.b.trans (hB.mono I.b.size), I.hin.below hB, I.res.below hB, I.box.below hB, (hB.block _ (lt_of_row I.rz)).trans I.rz, (hB.block _ (lt_of_row I.rm)).trans I.rm, (hB.block _ (lt_of_row I.rl)).trans I.rl, (hB.block _ (lt_of_row I.rv)).trans I.rv⟩
theorem HcI.setZ (I : HcI W0 hb h X gz gm gl gv CZ CM CL CV W) (F : Five s t X gz gm gl gv) (hs : W0.heap.size = hb + 2) (hs' : s = W0.heap.size) (hB : But gz W W') {C : List Value} (hr : W'.heap[gz]? = some (.cells C.toArray 54 (0, 0))) : HcI W0 hb h X gz gm gl gv C CM CL CV W' :=
 ⟨I.b.trans (hB.below (by have := F.z1; omega) I.b.size), I.hin.but hB (by have := F.z1; omega), I.res.but hB (by have := F.z1; omega), I.box.but hB F.xz, hr, (hB.block _ (lt_of_row I.rm) (fun e => F.zm e.symm)).trans I.rm, (hB.block _ (lt_of_row I.rl) (fun e => F.zl e.symm)).trans I.rl, (hB.block _ (lt_of_row I.rv) (fun e => F.zv e.symm)).trans I.rv⟩
theorem HcI.setM (I : HcI W0 hb h X gz gm gl gv CZ CM CL CV W) (F : Five s t X gz gm gl gv) (hs : W0.heap.size = hb + 2) (hs' : s = W0.heap.size) (hB : But gm W W') {C : List Value} (hr : W'.heap[gm]? = some (.cells C.toArray 3 (0, 0))) : HcI W0 hb h X gz gm gl gv CZ C CL CV W' :=
 ⟨I.b.trans (hB.below (by have := F.m1; omega) I.b.size), I.hin.but hB (by have := F.m1; omega), I.res.but hB (by have := F.m1; omega), I.box.but hB F.xm, (hB.block _ (lt_of_row I.rz) F.zm).trans I.rz, hr, (hB.block _ (lt_of_row I.rl) (fun e => F.ml e.symm)).trans I.rl, (hB.block _ (lt_of_row I.rv) (fun e => F.mv e.symm)).trans I.rv⟩
theorem HcI.setL (I : HcI W0 hb h X gz gm gl gv CZ CM CL CV W) (F : Five s t X gz gm gl gv) (hs : W0.heap.size = hb + 2) (hs' : s = W0.heap.size) (hB : But gl W W') {C : List Value} (hr : W'.heap[gl]? = some (.cells C.toArray 69 (0, 0))) : HcI W0 hb h X gz gm gl gv CZ CM C CV W' :=
 ⟨I.b.trans (hB.below (by have := F.l1; omega) I.b.size), I.hin.but hB (by have := F.l1; omega), I.res.but hB (by have := F.l1; omega), I.box.but hB F.xl, (hB.block _ (lt_of_row I.rz) F.zl).trans I.rz, (hB.block _ (lt_of_row I.rm) F.ml).trans I.rm, hr, (hB.block _ (lt_of_row I.rv) (fun e => F.lv e.symm)).trans I.rv⟩
theorem HcI.setV (I : HcI W0 hb h X gz gm gl gv CZ CM CL CV W) (F : Five s t X gz gm gl gv) (hs : W0.heap.size = hb + 2) (hs' : s = W0.heap.size) (hB : But gv W W') {C : List Value} (hr : W'.heap[gv]? = some (.cells C.toArray 40 (0, 0))) : HcI W0 hb h X gz gm gl gv CZ CM CL C W' :=
 ⟨I.b.trans (hB.below (by have := F.v1; omega) I.b.size), I.hin.but hB (by have := F.v1; omega), I.res.but hB (by have := F.v1; omega), I.box.but hB F.xv, (hB.block _ (lt_of_row I.rz) F.zv).trans I.rz, (hB.block _ (lt_of_row I.rm) F.mv).trans I.rm, (hB.block _ (lt_of_row I.rl) F.lv).trans I.rl, hr⟩
end
theorem HcI.newer {W0 : World} {hb : Nat} {h : Hx} {X gz gm gl gv : Nat} {CZ CM CL CV : List Value} {W W' : World} {s t c : Nat} (I : HcI W0 hb h X gz gm gl gv CZ CM CL CV W) (F : Five s t X gz gm gl gv) (hs : W0.heap.size = hb + 2) (hs' : s = W0.heap.size) (hB : But c W W') (hc : t ≤ c) : HcI W0 hb h X gz gm gl gv CZ CM CL CV W' :=
 ⟨I.b.trans (hB.below (by have := F.z1; have := F.z2; omega) I.b.size), I.hin.but hB (by have := F.z1; have := F.z2; omega), I.res.but hB (by have := F.z1; have := F.z2; omega), I.box.but hB (by have := F.x2; omega), (hB.block _ (lt_of_row I.rz) (by have := F.z2; omega)).trans I.rz, (hB.block _ (lt_of_row I.rm) (by have := F.m2; omega)).trans I.rm, (hB.block _ (lt_of_row I.rl) (by have := F.l2; omega)).trans I.rl, (hB.block _ (lt_of_row I.rv) (by have := F.v2; omega)).trans I.rv⟩
theorem But.then_new {b c : Nat} {w w' w'' : World} (h : But b w w') (k : But c w' w'') (hc : w.heap.size ≤ c) : But b w w'' :=
 ⟨k.os.trans h.os, k.tape.trans h.tape, k.output.trans h.output, Nat.le_trans h.size k.size, fun i hi hb => (k.block i (Nat.lt_of_lt_of_le hi h.size) (by omega)).trans (h.block i hi hb)⟩
theorem row_set4 {W : World} {g : Nat} {t : TypeId} {L : List Value} (h : W.heap[g]? = some (.cells L.toArray t (0, 0))) (i : Nat) (a b c d : Value) :
    ((((W.setCell ⟨g, i, none⟩ a).setCell ⟨g, i + 1, none⟩ b).setCell ⟨g, i + 2, none⟩ c).setCell ⟨g, i + 3, none⟩ d).heap[g]? = some (.cells ((((L.set i a).set (i + 1) b).set (i + 2) c).set (i + 3) d).toArray t (0, 0)) := by
 have h1 : (W.setCell ⟨g, i, none⟩ a).heap[g]? = some (.cells (L.toArray.setIfInBounds i a) t (0, 0)) := heap_setCell_same _ _ _ _ _ _ h
 have h2 : ((W.setCell ⟨g, i, none⟩ a).setCell ⟨g, i + 1, none⟩ b).heap[g]? = some (.cells ((L.toArray.setIfInBounds i a).setIfInBounds (i + 1) b) t (0, 0)) := heap_setCell_same _ _ _ _ _ _ h1
 have h3 : (((W.setCell ⟨g, i, none⟩ a).setCell ⟨g, i + 1, none⟩ b).setCell ⟨g, i + 2, none⟩ c).heap[g]? = some (.cells (((L.toArray.setIfInBounds i a).setIfInBounds (i + 1) b).setIfInBounds (i + 2) c) t (0, 0)) := heap_setCell_same _ _ _ _ _ _ h2
 have h4 : ((((W.setCell ⟨g, i, none⟩ a).setCell ⟨g, i + 1, none⟩ b).setCell ⟨g, i + 2, none⟩ c).setCell ⟨g, i + 3, none⟩ d).heap[g]? = some (.cells ((((L.toArray.setIfInBounds i a).setIfInBounds (i + 1) b).setIfInBounds (i + 2) c).setIfInBounds (i + 3) d) t (0, 0)) := heap_setCell_same _ _ _ _ _ _ h3
 simpa using h4
theorem row_set1 {W : World} {g : Nat} {t : TypeId} {L : List Value} (h : W.heap[g]? = some (.cells L.toArray t (0, 0))) (i : Nat) (a : Value) : (W.setCell ⟨g, i, none⟩ a).heap[g]? = some (.cells (L.set i a).toArray t (0, 0)) := by
 have h1 : (W.setCell ⟨g, i, none⟩ a).heap[g]? = some (.cells (L.toArray.setIfInBounds i a) t (0, 0)) := heap_setCell_same _ _ _ _ _ _ h
 simpa using h1
theorem but_set4 (W : World) (g i : Nat) (a b c d : Value) : But g W ((((W.setCell ⟨g, i, none⟩ a).setCell ⟨g, i + 1, none⟩ b).setCell ⟨g, i + 2, none⟩ c).setCell ⟨g, i + 3, none⟩ d) :=
 ((((But.refl g W).setCell a).setCell b).setCell c).setCell d
theorem take_set4 {L A : List Value} {k n : Nat} (hl : L.length = n * 4) (hk : k < n) (ht : L.take (k * 4) = A) (a b c d : Value) :
    ((((L.set (k * 4) a).set (k * 4 + 1) b).set (k * 4 + 2) c).set (k * 4 + 3) d).take ((k + 1) * 4) = A ++ [a, b, c, d] := by
 subst ht
 apply List.ext_getElem?
 intro i
 rw [List.getElem?_take]
 by_cases h : i < (k + 1) * 4
 ·rw [if_pos h]
  by_cases h0 : i < k * 4
  ·rw [List.getElem?_append_left (by simp; omega), List.getElem?_take, if_pos h0]
   rw [List.getElem?_set_ne (by omega), List.getElem?_set_ne (by omega), List.getElem?_set_ne (by omega), List.getElem?_set_ne (by omega)]
  rw [List.getElem?_append_right (by simp; omega)]
  have hlen : (L.take (k * 4)).length = k * 4 := by simp; omega
  rw [hlen]
  rcases (show i = k * 4 ∨ i = k * 4 + 1 ∨ i = k * 4 + 2 ∨ i = k * 4 + 3 by omega) with rfl | rfl | rfl | rfl
  ·rw [List.getElem?_set_ne (by omega), List.getElem?_set_ne (by omega), List.getElem?_set_ne (by omega), List.getElem?_set_self (by omega)]
   simp
  ·rw [List.getElem?_set_ne (by omega), List.getElem?_set_ne (by omega), List.getElem?_set_self (by simp; omega)]
   simp [show k * 4 + 1 - k * 4 = 1 by omega]
  ·rw [List.getElem?_set_ne (by omega), List.getElem?_set_self (by simp; omega)]
   simp [show k * 4 + 2 - k * 4 = 2 by omega]
  rw [List.getElem?_set_self (by simp; omega)]
  simp [show k * 4 + 3 - k * 4 = 3 by omega]
 rw [if_neg h, List.getElem?_eq_none (by simp; omega)]
theorem row_res4 {W : World} {g : Nat} {t : TypeId} {L : List Value} {n k : Nat} (h : W.heap[g]? = some (.cells L.toArray t (0, 0))) (hl : L.length = n * 4) (hk : k < n) :
    (∃ v, W.cell? ⟨g, k * 4, none⟩ = some v) ∧ (∃ v, W.cell? ⟨g, k * 4 + 1, none⟩ = some v) ∧ (∃ v, W.cell? ⟨g, k * 4 + 2, none⟩ = some v) ∧ (∃ v, W.cell? ⟨g, k * 4 + 3, none⟩ = some v) ∧ ∀ j, W.frozen? ⟨g, j, none⟩ = false := by
 have hc : ∀ j, j < L.length → ∃ v, W.cell? ⟨g, j, none⟩ = some v := fun j hj => ⟨L[j], by rw [cell_of_row _ _ _ _ _ _ h]; simp [hj]⟩
 exact ⟨hc _ (by omega), hc _ (by omega), hc _ (by omega), hc _ (by omega), fun j => frozen_of_row _ _ _ _ _ h⟩
theorem c4_snoc (l : List Q4) (q : Q4) : c4 (l ++ [q]) = c4 l ++ [q.a, q.b, q.c, q.d] := by rw [c4_append]; rfl
structure ZDone (S n k : Nat) (zs done : List Zc) (CZ : List Value) (W : World) : Prop where
 same : done.map (·.z) = (zs.take k).map (·.z)
 at_ : ∀ y ∈ done, y.At W ∧ Fresh S y.fo ∧ Fresh S y.to_
 clen : CZ.length = n * 4
 take : CZ.take (k * 4) = c4 (done.map Zc.q)
theorem ZDone.below {S n k : Nat} {zs done : List Zc} {CZ : List Value} {W W' : World} (h : ZDone S n k zs done CZ W) (hb : Below W.heap.size W W') : ZDone S n k zs done CZ W' :=
 ⟨h.same, fun y hy => ⟨(h.at_ y hy).1.below hb, (h.at_ y hy).2⟩, h.clen, h.take⟩
theorem ZDone.but {S n k c : Nat} {zs done : List Zc} {CZ : List Value} {W W' : World} (h : ZDone S n k zs done CZ W) (hb : But c W W') (hc : c < S) : ZDone S n k zs done CZ W' :=
 ⟨h.same, fun y hy => ⟨hb.zn (h.at_ y hy).1 (fun a ha => by have := (h.at_ y hy).2.1 a ha; omega) (fun a ha => by have := (h.at_ y hy).2.2 a ha; omega), (h.at_ y hy).2⟩, h.clen, h.take⟩
theorem ZDone.first {S n : Nat} {zs : List Zc} {CZ : List Value} {W : World} (h : CZ.length = n * 4) : ZDone S n 0 zs [] CZ W := ⟨rfl, fun y hy => absurd hy (by simp), h, by simp [c4]⟩
theorem ZDone.next {S n k g : Nat} {zs done : List Zc} {CZ : List Value} {W W' : World} (h : ZDone S n k zs done CZ W) (hk : k < n) (hn : zs.length = n) {z : Zn} {fo : Option Addr} {fn fc : Nat} {to_ : Option Addr} {tn tc : Nat} (hz : (zs.getD k .zero).z = z) (hb : But g W W') (hg : g < S) (hat : ZnAt W fo fn to_ tn z) (f1 : Fresh S fo) (f2 : Fresh S to_) :
    ZDone S n (k + 1) zs (done ++ [⟨z, fo, fn, fc, to_, tn, tc⟩]) ((((CZ.set (k * 4) (.int .i64 z.f)).set (k * 4 + 1) (.int .i64 z.t)).set (k * 4 + 2) (.slice fo fn fc)).set (k * 4 + 3) (.slice to_ tn tc)) W' := by
 have h' := h.but hb hg
 refine ⟨?_, ?_, by simpa using h.clen, ?_⟩
 ·have e : zs[k]'(by omega) = zs.getD k .zero := by rw [List.getD_eq_getElem?_getD, List.getElem?_eq_getElem (by omega)]; rfl
  rw [List.map_append, h.same, List.take_succ_eq_append_getElem (by omega), List.map_append, e, List.map_cons, List.map_cons, List.map_nil, hz]
 ·intro y hy
  rcases List.mem_append.1 hy with hy | hy
  ·exact h'.at_ y hy
  rw [List.mem_singleton] at hy
  subst hy
  exact ⟨hb.zn hat (fun a ha => by have := f1 a ha; omega) (fun a ha => by have := f2 a ha; omega), f1, f2⟩
 rw [take_set4 h.clen hk h.take, List.map_append, List.map_cons, List.map_nil, c4_snoc]
 rfl
theorem ZDone.all {S n : Nat} {zs done : List Zc} {CZ : List Value} {W : World} (h : ZDone S n n zs done CZ W) (hn : zs.length = n) : done.map (·.z) = zs.map (·.z) ∧ CZ = c4 (done.map Zc.q) := by
 have h1 := h.same
 have h2 := h.take
 rw [List.take_of_length_le (by omega)] at h1
 rw [List.take_of_length_le (by have := h.clen; omega)] at h2
 exact ⟨h1, h2⟩
structure LDone (S n k : Nat) (ls done : List Lc) (CL : List Value) (W : World) : Prop where
 same : done.map (·.l) = (ls.take k).map (·.l)
 at_ : ∀ y ∈ done, y.At W ∧ Fresh S y.po ∧ y.pc = y.pn
 clen : CL.length = n * 4
 take : CL.take (k * 4) = c4 (done.map Lc.q)
theorem LDone.but {S n k c : Nat} {ls done : List Lc} {CL : List Value} {W W' : World} (h : LDone S n k ls done CL W) (hb : But c W W') (hc : c < S) : LDone S n k ls done CL W' :=
 ⟨h.same, fun y hy => ⟨hb.nums (h.at_ y hy).1 (fun a ha => by have := (h.at_ y hy).2.1 a ha; omega), (h.at_ y hy).2⟩, h.clen, h.take⟩
theorem LDone.first {S n : Nat} {ls : List Lc} {CL : List Value} {W : World} (h : CL.length = n * 4) : LDone S n 0 ls [] CL W := ⟨rfl, fun y hy => absurd hy (by simp), h, by simp [c4]⟩
theorem LDone.next {S n k g : Nat} {ls done : List Lc} {CL CL' : List Value} {W W' : World} (h : LDone S n k ls done CL W) (hk : k < n) (hn : ls.length = n) {l : Ls} {po : Option Addr} {pn : Nat} (hz : (ls.getD k .zero).l = l) (hb : But g W W') (hg : g < S) (hat : Nums W' po pn l.pages) (f1 : Fresh S po)
    (hC : CL' = (((CL.set (k * 4) (.int .i64 l.c)).set (k * 4 + 1) (.int .i64 l.z)).set (k * 4 + 2) (.int .i64 l.t)).set (k * 4 + 3) (.slice po pn pn)) : LDone S n (k + 1) ls (done ++ [⟨l, po, pn, pn⟩]) CL' W' := by
 subst hC
 have h' := h.but hb hg
 refine ⟨?_, ?_, by simpa using h.clen, ?_⟩
 ·have e : ls[k]'(by omega) = ls.getD k .zero := by rw [List.getD_eq_getElem?_getD, List.getElem?_eq_getElem (by omega)]; rfl
  rw [List.map_append, h.same, List.take_succ_eq_append_getElem (by omega), List.map_append, e, List.map_cons, List.map_cons, List.map_nil, hz]
 ·intro y hy
  rcases List.mem_append.1 hy with hy | hy
  ·exact h'.at_ y hy
  rw [List.mem_singleton] at hy
  subst hy
  exact ⟨hat, f1, rfl⟩
 rw [take_set4 h.clen hk h.take, List.map_append, List.map_cons, List.map_nil, c4_snoc]
 rfl
theorem LDone.all {S n : Nat} {ls done : List Lc} {CL : List Value} {W : World} (h : LDone S n n ls done CL W) (hn : ls.length = n) : done.map (·.l) = ls.map (·.l) ∧ CL = c4 (done.map Lc.q) := by
 have h1 := h.same
 have h2 := h.take
 rw [List.take_of_length_le (by omega)] at h1
 rw [List.take_of_length_le (by have := h.clen; omega)] at h2
 exact ⟨h1, h2⟩
theorem oper_copy_k {P : Program} {o : Oper} {a : Act} {w : World} {K : Act → World → Prop} {Q : Exit → Act → World → Prop} (hgd : o.guard = none) (d s : Operand) (dT sT : TypeId)
    (ho : o.op = .call { callee := .builtin .copy, args := #[d, s], argTypes := #[dT, sT] }) (elem : TypeId) (k : Nat) (hu : P.underlying dT = some (.slice elem)) (hsz : (P.info? elem).map (·.size) = some k)
    (dp sp : Option Addr) (dLen dCap sLen sCap : Nat) (hd : a.eval d = .slice dp dLen dCap) (hs : a.eval s = .slice sp sLen sCap)
    (g off : Nat) (cur : List Value) (t : TypeId) (hg : w.heap[g]? = some (.cells cur.toArray t (0, 0))) (cs : List Value) (m : Nat) (hm : Nat.min sLen dLen = m) (hn : cs.length = m * k)
    (hpos : 0 < m → dp = some ⟨g, off, none⟩ ∧ ∃ ad, sp = some ad ∧ ∀ j v, cs[j]? = some v → w.cell? (ad.add j) = some v)
    (hfit : off + cs.length ≤ cur.length) (h1 : ∀ v ∈ cs, v.oneCell' = true)
    (h : ∀ w', Hid (w'.heap[g]? = some (.cells (splice cur off cs).toArray t (0, 0))) → But g w w' → K (a.put o.dst (goInt m)) w') : Oper.wp P o a w K Q := by
 have h := step_copy_k (P := P) (ops := #[]) (E := True) (Q := Q) hgd d s dT sT ho elem k hu hsz dp sp dLen dCap sLen sCap hd hs g off cur t hg cs m hm hn hpos hfit h1 h
 simpa [Region.wanted, hgd] using h
def RetHeap (B : Nat) (w' : World) (H : Hp) (e : Ending) : Prop :=
 ∃ gz gl gv y, e = .returned (.agg #[.slice y.zo y.zn y.zc, .slice y.mo y.mn y.mc, .int .i64 y.cpus, .slice y.lo y.ln y.lc, .slice y.vo y.vn y.vc]) ∧ y.hp = H ∧ HOwn w' B gz gl gv y
theorem HcI.owns {W0 : World} {hb : Nat} {x : Hx} {X gz gm gl gv : Nat} {CZ CM CL CV : List Value} {W : World} {S : Nat} {zd : List Zc} {ld : List Lc} (I : HcI W0 hb x X gz gm gl gv CZ CM CL CV W) (F : Five W0.heap.size S X gz gm gl gv) (hx : x.At W)
    (D : ZDone S x.zn x.zn x.zs zd CZ W) (L : LDone S x.ln x.ln x.ls ld CL W) (hM : CM = vals x.mins) (hV : CV = bvals x.live) :
    HOwn W W0.heap.size gz gl gv ⟨zd, some ⟨gz, 0, none⟩, x.zn, x.zn, x.mins, some ⟨gm, 0, none⟩, x.mn, x.mn, x.cpus, ld, some ⟨gl, 0, none⟩, x.ln, x.ln, x.live, some ⟨gv, 0, none⟩, x.vn, x.vn⟩ ∧
    (Hx.mk zd (some ⟨gz, 0, none⟩) x.zn x.zn x.mins (some ⟨gm, 0, none⟩) x.mn x.mn x.cpus ld (some ⟨gl, 0, none⟩) x.ln x.ln x.live (some ⟨gv, 0, none⟩) x.vn x.vn).hp = x.hp := by
 obtain ⟨d1, d2⟩ := D.all hx.zones.len
 obtain ⟨l1, l2⟩ := L.all hx.lists.len
 have rz := hx.zones.reach
 have rm := hx.mins.reach
 have rl := hx.lists.reach
 have rv := hx.live.reach
 have f1 := F.z1
 have f2 := F.m1
 have f3 := F.l1
 have f4 := F.v1
 have oz : W.ownsRow W0.heap.size 54 4 (.slice (some ⟨gz, 0, none⟩) x.zn x.zn) x.zn (c4 (zd.map Zc.q)) := by rw [← d2]; exact owns_of_row I.rz (by omega) D.clen (by unfold maxLen; omega)
 have ol : W.ownsRow W0.heap.size 69 4 (.slice (some ⟨gl, 0, none⟩) x.ln x.ln) x.ln (c4 (ld.map Lc.q)) := by rw [← l2]; exact owns_of_row I.rl (by omega) L.clen (by unfold maxLen; omega)
 have lV : CV.length = x.vn * 3 := by rw [hV, length_bvals, hx.live.len]
 have lM : CM.length = x.mn * 1 := by rw [hM, length_vals, hx.mins.len]; omega
 have ov : W.ownsRow W0.heap.size 40 3 (.slice (some ⟨gv, 0, none⟩) x.vn x.vn) x.vn (bvals x.live) := by rw [← hV]; exact owns_of_row I.rv (by omega) lV (by unfold maxLen; omega)
 have om : W.ownsRow W0.heap.size 3 1 (.slice (some ⟨gm, 0, none⟩) x.mn x.mn) x.mn (vals x.mins) := by rw [← hM]; exact owns_of_row I.rm (by omega) lM (by unfold maxLen; omega)
 have hz : Zons W (some ⟨gz, 0, none⟩) x.zn zd := ⟨by have := congrArg List.length d1; simp only [List.length_map] at this; rw [this]; exact hx.zones.len, rz, c4_of_owns oz, fun y hy => (D.at_ y hy).1⟩
 have hl : Lsts W (some ⟨gl, 0, none⟩) x.ln ld := ⟨by have := congrArg List.length l1; simp only [List.length_map] at this; rw [this]; exact hx.lists.len, rl, c4_of_owns ol, fun y hy => (L.at_ y hy).1⟩
 have off : ∀ {ao : Option Addr}, Fresh S ao → Off3 gz gl gv ao := fun h a ha => by
  have := h a ha
  have g1 := F.z2
  have g2 := F.l2
  have g3 := F.v2
  exact ⟨by omega, by omega, by omega⟩
 have wk : ∀ {ao : Option Addr}, Fresh S ao → Fresh W0.heap.size ao := fun h => h.mono (by have := F.z2; omega)
 refine ⟨⟨oz, ol, ov, rfl, fun a ha => by cases ha; rfl, fun a ha => by cases ha; rfl, ⟨hz, nums_of_owns om rm, hl, blks_own ov rv⟩, F.zl, F.zv, F.lv, fun y hy => ?_, fun y hy => ?_, ?_, ?_, by omega, by omega, by omega⟩, ?_⟩
 ·obtain ⟨_, h1, h2⟩ := D.at_ y hy
  exact ⟨off h1, off h2, wk h1, wk h2⟩
 ·obtain ⟨_, h1, h2⟩ := L.at_ y hy
  exact ⟨off h1, wk h1, h2⟩
 ·intro a ha
  cases ha
  exact ⟨fun e => F.zm e.symm, F.ml, F.mv⟩
 ·intro a ha
  cases ha
  show W0.heap.size ≤ gm
  omega
 show Hp.mk _ _ _ _ _ = Hp.mk _ _ _ _ _
 rw [d1, l1]
theorem HOwn.but {W W' : World} {B gz gl gv c : Nat} {y : Hx} (h : HOwn W B gz gl gv y) (hb : But c W W') (hc : c < B) : HOwn W' B gz gl gv y := by
 have g1 := h.gzB
 have g2 := h.glB
 have g3 := h.gvB
 have keepOwn : ∀ {e : TypeId} {size n cap : Nat} {ao : Option Addr} {xs : List Value}, W.ownsRow B e size (.slice ao n cap) n xs → W'.ownsRow B e size (.slice ao n cap) n xs := by
  intro e size n cap ao xs ho
  refine ⟨ho.1, ?_⟩
  rcases ho.2 with hn | ⟨g, cp, cur, hv, hbg, hg, rest⟩
  ·exact .inl hn
  exact .inr ⟨g, cp, cur, hv, hbg, (hb.block g (lt_of_row hg) (by omega)).trans hg, rest⟩
 have fr : ∀ {ao : Option Addr}, Fresh B ao → ∀ a, ao = some a → a.block ≠ c := fun hf a ha => by have := hf a ha; omega
 have oz := keepOwn h.oz
 have ol := keepOwn h.ol
 have ov := keepOwn h.ov
 exact ⟨oz, ol, ov, h.ez, h.el, h.ev, ⟨⟨h.at_.zones.len, h.at_.zones.reach, c4_of_owns oz, fun z hz => hb.zn (h.at_.zones.at_ z hz) (fr (h.zoff z hz).2.2.1) (fr (h.zoff z hz).2.2.2)⟩, hb.nums h.at_.mins (fr h.mfresh), ⟨h.at_.lists.len, h.at_.lists.reach, c4_of_owns ol, fun l hl => hb.nums (h.at_.lists.at_ l hl) (fr (h.loff l hl).2.1)⟩, ⟨h.at_.live.len, h.at_.live.reach, blks_of_owns ov⟩⟩, h.zl, h.zv, h.lv, h.zoff, h.loff, h.moff, h.mfresh, h.gzB, h.glB, h.gvB⟩
theorem HOwn.weaken {W : World} {B B' gz gl gv : Nat} {y : Hx} (h : HOwn W B gz gl gv y) (hb : B' ≤ B) : HOwn W B' gz gl gv y :=
 ⟨owns_weaken h.oz hb, owns_weaken h.ol hb, owns_weaken h.ov hb, h.ez, h.el, h.ev, h.at_, h.zl, h.zv, h.lv, fun z hz => ⟨(h.zoff z hz).1, (h.zoff z hz).2.1, (h.zoff z hz).2.2.1.mono hb, (h.zoff z hz).2.2.2.mono hb⟩, fun l hl => ⟨(h.loff l hl).1, (h.loff l hl).2.1.mono hb, (h.loff l hl).2.2⟩, h.moff, h.mfresh.mono hb, Nat.le_trans hb h.gzB, Nat.le_trans hb h.glB, Nat.le_trans hb h.gvB⟩
theorem zero_list : ∀ w, (zeroValue 69).run Tryz.prog w = .ok (.agg #[.int .i64 0, .int .i64 0, .int .i64 0, .slice none 0 0]) w := fun w => by
 have h := info_list
 cases hq : Tryz.prog.info? 69 with
 | none => simp [hq] at h
 | some i =>
  simp [hq] at h
  simp [zeroValue, typeInfo, hq, h.1]
theorem zero_oneL : ∀ v ∈ (Value.agg #[.int .i64 0, .int .i64 0, .int .i64 0, .slice none 0 0]).cells, v.oneCell' = true := by
 intro v hv
 have h : v ∈ (#[.int .i64 0, .int .i64 0, .int .i64 0, .slice none 0 0] : Array Value) := hv
 simp at h
 rcases h with rfl | rfl <;> rfl
theorem q4_one {b : Q4} (h : b.One) : ∀ u ∈ ([b.a, b.b, b.c, b.d] : List Value), u.oneCell' = true := by
 obtain ⟨h1, h2, h3, h4⟩ := h
 intro u hu
 simp only [List.mem_cons, List.not_mem_nil, or_false] at hu
 rcases hu with rfl | rfl | rfl | rfl <;> assumption
theorem c4_take (l : List Q4) (i : Nat) : (c4 l).take (i * 4) = c4 (l.take i) := by
 induction l generalizing i with
 | nil => simp [c4]
 | cons b l ih =>
  cases i with
  | zero => simp [c4]
  | succ i => rw [Nat.succ_mul]; simp only [c4, List.take_succ_cons, ih]
theorem c4_drop (l : List Q4) (i : Nat) : (c4 l).drop (i * 4) = c4 (l.drop i) := by
 induction l generalizing i with
 | nil => simp [c4]
 | cons b l ih =>
  cases i with
  | zero => simp [c4]
  | succ i => rw [Nat.succ_mul]; simp only [c4, List.drop_succ_cons, ih]
theorem lDel_any (w : World) (base g N cap i : Nat) (l : List Q4) (hi : i ≤ N) (hn : N ≤ 300) (hl1 : ∀ x ∈ l, x.One) (own : w.ownsRow base 69 4 (.slice (some ⟨g, 0, none⟩) (N + 1) cap) (N + 1) (c4 l)) :
    Calls Tryz.prog 104 #[.slice (some ⟨g, 0, none⟩) (N + 1) cap, .int .i64 i, .int .i64 ((i : Int) + 1)] w fun e w' => e = .returned (.slice (some ⟨g, 0, none⟩) N cap) ∧
     w'.ownsRow base 69 4 (.slice (some ⟨g, 0, none⟩) N cap) N (c4 (l.eraseIdx i)) ∧ But g w w' := by
 obtain ⟨i1, hj, hy0, hy1, hy2⟩ := info_parts info_list
 have hll := c4owns_len own
 obtain ⟨hbg, hnc, cur, R, hcur⟩ := Row.of own
 have hm := R.m
 unfold maxLen at hm
 have own1 : w.drew.ownsRow base 69 4 (.slice (some ⟨g, 0, none⟩) i cap) i (c4 (l.take i)) :=
  (R.below (Below.refl _ _).drew).owns hbg (by omega) (by rw [take_cut hcur (by omega), c4_take])
 obtain ⟨news, hnews⟩ : ∃ news, news = c4 (l.drop (i + 1)) := ⟨_, rfl⟩
 have hnl : news.length = (N - i) * 4 := by rw [hnews, length_c4, List.length_drop, hll]; omega
 have hn1 : ∀ u ∈ news, u.oneCell' = true := by rw [hnews]; exact c4_oneCell _ (fun x hx => hl1 x (List.mem_of_mem_drop hx))
 have hcell : ∀ j u, news[j]? = some u → w.drew.cell? ((⟨g, (i + 1) * 4, none⟩ : Addr).add j) = some u := by
  intro j u hu
  rw [add_at, (R.below (Below.refl _ _).drew).cell]
  rw [hnews, ← c4_drop, List.getElem?_drop] at hu
  rw [← hcur, List.getElem?_take] at hu
  split at hu
  ·exact hu
  cases hu
 have HE : Hid (c4 (l.take i) ++ news = c4 (l.eraseIdx i)) := by
  show _ = _
  rw [hnews, ← c4_append, List.eraseIdx_eq_take_drop_succ]
 have hsum : i + (N - i) = N := by omega
 have Hcell : Hid _ := hcell
 have Hnl : Hid _ := hnl
 clear hnews hcur own hcell hnl
 have h1 : (i : Int) + 1 ≤ N + 1 := by omega
 have h2 : i ≤ N + 1 := by omega
 have h3 : ((i : Int) == (i : Int) + 1) = false := by simp; omega
 have h4 : ((i : Int) + 1).toNat = i + 1 := by omega
 have h5 : i ≤ cap := by omega
 have h6 : ¬ (cap = N) := by omega
 have h7 : N + 1 - N = 1 := by omega
 have h8 : (i : Int) ≤ (cap : Int) := by omega
 have h9 : (i : Int) + 1 ≤ (cap : Int) := by omega
 have h10 : (i : Int) ≤ (N : Int) + 1 := by omega
 have h11 : (N : Int) ≤ (N : Int) + 1 := by omega
 have h12 : (N : Int) + 1 ≤ (cap : Int) := by omega
 have h13 : ((N : Int) + 1).toNat = N + 1 := by omega
 have h14 : ¬ (cap = i) := by omega
 have h15 : (0 : Int) ≤ (i : Int) + 1 := by omega
 by_cases hc' : cap = i + 1
 ·have hc : (cap = i + 1) = True := eq_true hc'
  have HC : Hid (cap = i + 1) := hc'
  clear hc'
  go_enter Tryz.func104, Tryz.ntmps104
  go_wp2
  go_region_law (refine step_append_fits rfl (.tmp 22) (.tmp 25) 31 rfl 69 i1 4 Tryz.underlying31 hj hy1 base g i cap (c4 (l.take i)) (by simp [Act.eval, Act.put]) own1 (some ⟨g, 0, none⟩) (N - i) (cap - (i + 1)) news (by simp [Act.eval, Act.put]) Hnl.out ⟨_, rfl, fun j u hu => by have := Hnl.out; have hc' := HC.out; have h0 : news = [] := List.eq_nil_of_length_eq_zero (by omega); rw [h0] at hu; cases hu⟩ hn1 N hsum (by omega) ?_; intro w1 ho1 hb1)
  all_goals
   obtain ⟨_, _, cur1, R1, hcur1⟩ := Row.of ho1
   have hl1 := R1.len
   clear own1 Hcell Hnl hn1 ho1 R
   go_wp2_with (refine wpList_clear_k rfl (.tmp 31) 31 rfl 69 _ 4 Tryz.underlying31 zero_list rfl zero_oneL _ _ _ rfl g (N * 4) cur1 R1.h (fun _ => rfl) (by omega) ?_; intro w2 cur2 hg2 hb2)
   go_ret
   obtain ⟨g1, g2, g3⟩ := hg2.out
   have R2 : Row w2 69 4 g cap cur2 := ⟨g1, by rw [g2]; exact hl1, R1.m⟩
   exact ⟨rfl, R2.owns hbg (by omega) (by rw [g3, hcur1, HE.out]), ((But.of_below (Below.refl _ _).drew).trans hb1).trans hb2⟩
 go_enter Tryz.func104, Tryz.ntmps104
 go_wp2
 go_region_law (refine step_append_fits rfl (.tmp 22) (.tmp 25) 31 rfl 69 i1 4 Tryz.underlying31 hj hy1 base g i cap (c4 (l.take i)) (by simp [Act.eval, Act.put]) own1 (some ⟨g, (i + 1) * 4, none⟩) (N - i) (cap - (i + 1)) news (by simp [Act.eval, Act.put]) Hnl.out ⟨_, rfl, Hcell.out⟩ hn1 N hsum (by omega) ?_; intro w1 ho1 hb1)
 all_goals
  obtain ⟨_, _, cur1, R1, hcur1⟩ := Row.of ho1
  have hl1 := R1.len
  clear own1 Hcell Hnl hn1 ho1 R
  go_wp2_with (refine wpList_clear_k rfl (.tmp 31) 31 rfl 69 _ 4 Tryz.underlying31 zero_list rfl zero_oneL _ _ _ rfl g (N * 4) cur1 R1.h (fun _ => rfl) (by omega) ?_; intro w2 cur2 hg2 hb2)
  go_ret
  obtain ⟨g1, g2, g3⟩ := hg2.out
  have R2 : Row w2 69 4 g cap cur2 := ⟨g1, by rw [g2]; exact hl1, R1.m⟩
  exact ⟨rfl, R2.owns hbg (by omega) (by rw [g3, hcur1, HE.out]), ((But.of_below (Below.refl _ _).drew).trans hb1).trans hb2⟩
end Go.Proofs.YtjohdbiipeedkaaGreatDoor
namespace Go.Proofs.YtjohdbiipeedkaaGreatDoor.Kit
open Go Go.RowKit
theorem row_new {w : World} {e : TypeId} {size cap : Nat} {A : Array Value} (hs : A.size = cap * size) (hm : cap ≤ maxLen) : Row (w.drew.alloc (.cells A e)) e size w.heap.size cap A.toList := by
 refine ⟨?_, by simpa using hs, hm⟩
 have := heap_alloc_new w.drew (.cells A e)
 simpa using this
theorem below_new (w : World) (o : Obj) : Below w.heap.size w (w.drew.alloc o) := ((Below.refl _ _).drew).alloc (Nat.le_refl _) o
theorem grow_some {P : Program} (w : World) (t ty e : TypeId) (i : TypeInfo) (z : Value) (size : Nat) (ht : P.underlying t = some (.slice e)) (hi : P.info? e = some i) (hz : i.zero = some z) (hsz : i.size = size) (hzs : z.cells.size = size)
    (b : Addr) (sLen sCap : Nat) (olds : List Value) (hlo : olds.length = sLen * size) (holds : ∀ j v, olds[j]? = some v → w.cell? (b.add j) = some v)
    (a : Addr) (n c : Nat) (news : List Value) (hl : news.length = n * size) (hnews : ∀ j v, news[j]? = some v → w.cell? (a.add j) = some v)
    (hg : sCap < sLen + n) (hm : sLen + n ≤ maxLen) (hby : (sLen + n) * i.bytes ≤ 140737488355328) :
    ∃ cap' W cur, (Builtin.append_ #[t, t] ty #[.slice (some b) sLen sCap, .slice (some a) n c]).run P w = .ok (.slice (some ⟨w.heap.size, 0, none⟩) (sLen + n) cap') W ∧
     Row W e size w.heap.size cap' cur ∧ cur.take ((sLen + n) * size) = olds ++ news ∧ sLen + n ≤ cap' ∧ Below w.heap.size w W := by
 subst hsz
 have h63 : ((sLen + n : Nat) : Int) ≤ 9223372036854775807 := by simp only [maxLen] at hm; omega
 have hr := run_append_grow (P := P) w t ty e i z ht hi hz b sLen sCap olds hlo holds a n c news hl hnews hg h63 (growslice_fits hg hby)
 have hc1 := grownCap_ge w (sLen + n) sCap e
 have hc2 := grownCap_le_maxLen w (sLen + n) sCap e hm
 refine ⟨_, _, _, hr, row_new ?_ hc2, ?_, hc1, below_new _ _⟩
 ·simp only [Array.size_append, List.size_toArray, size_zeroCells, hlo, hl, hzs]
  rw [← Nat.add_mul, ← Nat.add_mul]
  congr 1
  omega
 simp only [Array.toList_append]
 rw [List.take_append_of_le_length (by simp [hlo, hl, Nat.add_mul]), List.take_of_length_le (by simp [hlo, hl, Nat.add_mul])]
theorem grow_zeros {P : Program} (w : World) (t tn ty e : TypeId) (i : TypeInfo) (z : Value) (size : Nat) (kq kn : IntKind) (ht : P.underlying t = some (.slice e)) (htn : P.underlying tn = some (.int kn)) (hi : P.info? e = some i) (hz : i.zero = some z) (hsz : i.size = size) (hs0 : 0 < size) (hzs : z.cells.size = size)
    (b : Addr) (sLen sCap : Nat) (olds : List Value) (hlo : olds.length = sLen * size) (holds : ∀ j v, olds[j]? = some v → w.cell? (b.add j) = some v)
    (k : Nat) (h0 : 0 < k) (hg : sCap < sLen + k) (hm : sLen + k ≤ maxLen) (hby : (sLen + k) * i.bytes ≤ 140737488355328) :
    ∃ cap' W cur, (Builtin.append_ #[t, tn] ty #[.slice (some b) sLen sCap, .int kq k]).run P w = .ok (.slice (some ⟨w.heap.size, 0, none⟩) (sLen + k) cap') W ∧
     Row W e size w.heap.size cap' cur ∧ cur.take (sLen * size) = olds ∧ sLen + k ≤ cap' ∧ Below w.heap.size w W := by
 subst hsz
 have h63 : ((sLen + k : Nat) : Int) ≤ 9223372036854775807 := by simp only [maxLen] at hm; omega
 have hold : (Builtin.firstCells i.size sLen (.slice (some b) sLen sCap)).run P w.drew = .ok olds.toArray w.drew :=
  run_firstCells_some w.drew i.size sLen b sLen sCap olds hlo (fun j v hj => by simpa using holds j v hj)
 have h48 : k * i.bytes ≤ 281474976710656 := by have := Nat.mul_le_mul_right i.bytes (show k ≤ sLen + k by omega); omega
 have hr := Go.Lib.run_append_grow_zeros (P := P) w t tn ty e i z kq kn ht htn hi hz (some b) sLen sCap olds hold k h0 hs0 hg h63 h48 (growslice_fits hg hby)
 have hc1 := grownCap_ge w (sLen + k) sCap e
 have hc2 := grownCap_le_maxLen w (sLen + k) sCap e hm
 refine ⟨_, _, _, hr, row_new ?_ hc2, ?_, hc1, below_new _ _⟩
 ·simp only [Array.size_append, List.size_toArray, size_zeroCells, hlo, hzs]
  rw [← Nat.add_mul, ← Nat.add_mul]
  congr 1
  omega
 simp only [Array.toList_append, List.append_assoc]
 rw [List.take_append_of_le_length (by simp [hlo]), List.take_of_length_le (by simp [hlo])]
theorem splice_two_a {α : Type} {L X Y : List α} {p : Nat} (h : p + X.length + Y.length ≤ L.length) : (splice (splice L p X) (p + X.length) Y).take (p + X.length + Y.length) = L.take p ++ (X ++ Y) := by
 have e : (splice L p X).take (p + X.length) = L.take p ++ X := by
  unfold splice
  rw [← List.append_assoc, List.take_append_of_le_length (by simp; omega), List.take_of_length_le (by simp; omega)]
 show (List.take (p + X.length) (splice L p X) ++ (Y ++ _)).take _ = _
 rw [e, ← List.append_assoc, List.take_append_of_le_length (by simp; omega), List.take_of_length_le (by simp; omega), List.append_assoc]
theorem splice_two_b {α : Type} {L X Y : List α} {p : Nat} (h : p + X.length + Y.length ≤ L.length) : (splice (splice L (p + X.length) Y) p X).take (p + X.length + Y.length) = L.take p ++ (X ++ Y) := by
 have e1 : (splice L (p + X.length) Y).take p = L.take p := splice_take (by omega) (by omega)
 have e2 : (splice L (p + X.length) Y).drop (p + X.length) = Y ++ L.drop (p + X.length + Y.length) := by
  unfold splice
  rw [List.drop_append_of_le_length (by simp; omega), List.drop_of_length_le (by simp; omega), List.nil_append]
 show (List.take p (splice L (p + X.length) Y) ++ (X ++ List.drop (p + X.length) (splice L (p + X.length) Y))).take _ = _
 rw [e1, e2, ← List.append_assoc, ← List.append_assoc, List.take_append_of_le_length (by simp; omega), List.take_of_length_le (by simp; omega), List.append_assoc]
end Go.Proofs.YtjohdbiipeedkaaGreatDoor.Kit
namespace Go.Proofs.YtjohdbiipeedkaaGreatDoor
open Go Go.RowKit Go.Proofs.YtjohdbiipeedkaaGreatDoor.Kit
def insQ (l : List Q4) (i : Nat) (b : Q4) : List Q4 := l.take i ++ b :: l.drop i
theorem insQ_vals (l : List Q4) (i : Nat) (b : Q4) : c4 (insQ l i b) = c4 (l.take i) ++ ([b.a, b.b, b.c, b.d] ++ c4 (l.drop i)) := by
 unfold insQ
 rw [c4_append]
 rfl
def RetRowL (w w' : World) (base g n : Nat) (l : List Q4) (e : Ending) : Prop :=
 ∃ g' cap', e = .returned (.slice (some ⟨g', 0, none⟩) n cap') ∧ w'.ownsRow base 69 4 (.slice (some ⟨g', 0, none⟩) n cap') n (c4 l) ∧ But g w w' ∧ (g' = g ∨ w.heap.size ≤ g')
theorem ov_falseL (w : World) (g gv off lb cb la ca : Nat) (cur vs : List Value) (cap kA : Nat) (R : Row w 69 4 g cap cur) (hv : w.heap[gv]? = some (.cells vs.toArray 69 (0, 0))) (hk : vs.length = kA) (hne : gv ≠ g) (hc : 0 < cap) :
    (callFunc 116 #[.slice (some ⟨gv, 0, none⟩) la ca, .slice (some ⟨g, off, none⟩) lb cb]).run Tryz.prog w = .ok (.value (.bool false)) w := by
 have hz : ∀ w, (Go.sizeOf 69).run Tryz.prog w = .ok 4 w := fun w => Tryz.sizeOf69 w
 rw [run_callFunc_extern Tryz.func116 (by kernel_rfl) (by kernel_rfl) (by kernel_rfl) (e := Extern.SlicesOverlaps.overlaps #[31, 31] #[4]) (by kernel_rfl),
  Lib.run_overlaps_apart w 31 4 69 Tryz.underlying31 4 hz ⟨gv, 0, none⟩ ⟨g, off, none⟩ la ca lb cb hne 69 69 kA (cap * 4) (by simp [World.shape?, hv, hk]) (by simp [World.shape?, R.h, R.len]) (by omega) (by simp [World.frozen?, hv]) (by simp [World.frozen?, hv])]
 rfl
theorem lIns_end (w : World) (base g N cap i gv : Nat) (l : List Q4) (b : Q4) (hi : i = N) (hN : N ≤ 300) (_hl1 : ∀ x ∈ l, x.One) (hb1 : b.One) (own : w.ownsRow base 69 4 (.slice (some ⟨g, 0, none⟩) N cap) N (c4 l)) (hv : w.heap[gv]? = some (.cells #[b.a, b.b, b.c, b.d] 69 (0, 0))) (_hne : gv ≠ g) :
    Calls Tryz.prog 105 #[.slice (some ⟨g, 0, none⟩) N cap, .int .i64 i, .slice (some ⟨gv, 0, none⟩) 1 1] w fun e w' => RetRowL w w' base g (N + 1) (insQ l i b) e := by
 obtain ⟨i1, hj, hy0, hy1, hy2⟩ := info_parts info_list
 have hll := c4owns_len own
 obtain ⟨hbg, hnc, cur, R, hcur⟩ := Row.of own
 have hm := R.m
 have hml : N + 1 ≤ maxLen := by unfold maxLen; omega
 unfold maxLen at hm
 have hRl := R.len
 have hvc : ∀ j v, ([b.a, b.b, b.c, b.d] : List Value)[j]? = some v → ∀ W : World, W.heap[gv]? = some (.cells #[b.a, b.b, b.c, b.d] 69 (0, 0)) → W.cell? ((⟨gv, 0, none⟩ : Addr).add j) = some v := by
  intro j v hjv W hW
  rw [add_at, Nat.zero_add]
  simp only [World.cell?, hW]
  simpa using hjv
 have hv1 : ∀ u ∈ ([b.a, b.b, b.c, b.d] : List Value), u.oneCell' = true := q4_one hb1
 obtain ⟨vs, hvs⟩ : ∃ vs : List Value, [b.a, b.b, b.c, b.d] = vs := ⟨_, rfl⟩
 have hvl : vs.length = 4 := by rw [← hvs]; rfl
 have HVA : (#[b.a, b.b, b.c, b.d] : Array Value) = vs.toArray := by rw [← hvs]
 have HI : Hid (c4 (insQ l i b) = c4 (l.take i) ++ (vs ++ c4 (l.drop i))) := by show _ = _; rw [insQ_vals, hvs]
 rw [HVA] at hv hvc
 rw [hvs] at hvc hv1
 have HVC : Hid _ := hvc
 clear hvs HVA hvc
 have a1 : (i : Int) ≤ N := by omega
 have a2 : ((1 : Int) == 0) = false := by decide
 have a3 : (N : Int) ≤ cap := by omega
 have HE : Hid (c4 l ++ vs = c4 (insQ l i b)) := by
  show _ = _
  rw [HI.out, List.take_of_length_le (by omega), List.drop_of_length_le (by omega)]
  simp [c4]
 subst hi
 have hc1 : ∀ j v, vs[j]? = some v → w.cell? ((⟨gv, 0, none⟩ : Addr).add j) = some v := fun j v h => HVC.out j v h w hv
 by_cases hroom : i + 1 ≤ cap
 ·go_enter Tryz.func105, Tryz.ntmps105
  go_wp2_with (at_builtin; refine wpList_append_fits _ rfl (.tmp 23) (.tmp 24) 31 rfl base 69 i1 4 Tryz.underlying31 hj hy1 g i cap (c4 l) rfl own ⟨gv, 0, none⟩ 1 1 vs rfl hvl hc1 hv1 hroom ?_; intro w1 ho1 hb1)
  all_goals
   go_ret
   exact ⟨g, cap, rfl, by rw [← HE.out]; exact ho1, ⟨hb1.os, hb1.tape, hb1.output, hb1.size, fun k hk hne => hb1.block k hk (by intro g; exact hne (by simpa using g))⟩, .inl rfl⟩
 have hold : ∀ j v, (c4 l)[j]? = some v → w.cell? ((⟨g, 0, none⟩ : Addr).add j) = some v := own.cells rfl
 obtain ⟨cap', W, cur', hrun, R', ht, hc', hb'⟩ := grow_some (P := Tryz.prog) w 31 31 69 i1 _ 4 Tryz.underlying31 hj hy0 hy1 rfl ⟨g, 0, none⟩ i cap (c4 l) own.1 hold ⟨gv, 0, none⟩ 1 1 vs hvl hc1 (by omega) hml (by rw [hy2]; omega)
 have ow' := R'.owns (base := base) (n := i + 1) (by have := R.lt; omega) hc' ht
 have HR : Hid _ := hrun
 clear hrun
 go_enter Tryz.func105, Tryz.ntmps105
 go_wp2_with (at_builtin; refine Lib.wpList_append_run _ rfl (.tmp 23) (.tmp 24) 31 31 rfl _ _ rfl rfl _ _ HR.out ?_)
 all_goals
  go_ret
  exact ⟨w.heap.size, cap', rfl, by rw [← HE.out]; exact ow', .of_below hb', .inr (Nat.le_refl _)⟩
theorem lIns_shift (w : World) (base g N cap i gv : Nat) (l : List Q4) (b : Q4) (hi : i < N) (hN : N ≤ 300) (hl1 : ∀ x ∈ l, x.One) (hb1 : b.One) (hroom : N + 1 ≤ cap) (own : w.ownsRow base 69 4 (.slice (some ⟨g, 0, none⟩) N cap) N (c4 l)) (hv : w.heap[gv]? = some (.cells #[b.a, b.b, b.c, b.d] 69 (0, 0))) (hne : gv ≠ g) :
    Calls Tryz.prog 105 #[.slice (some ⟨g, 0, none⟩) N cap, .int .i64 i, .slice (some ⟨gv, 0, none⟩) 1 1] w fun e w' => RetRowL w w' base g (N + 1) (insQ l i b) e := by
 obtain ⟨i1, hj, hy0, hy1, hy2⟩ := info_parts info_list
 have hll := c4owns_len own
 obtain ⟨hbg, hnc, cur, R, hcur⟩ := Row.of own
 have hm := R.m
 have hml : N + 1 ≤ maxLen := by unfold maxLen; omega
 unfold maxLen at hm
 have hRl := R.len
 have hvc : ∀ j v, ([b.a, b.b, b.c, b.d] : List Value)[j]? = some v → ∀ W : World, W.heap[gv]? = some (.cells #[b.a, b.b, b.c, b.d] 69 (0, 0)) → W.cell? ((⟨gv, 0, none⟩ : Addr).add j) = some v := by
  intro j v hjv W hW
  rw [add_at, Nat.zero_add]
  simp only [World.cell?, hW]
  simpa using hjv
 have hv1 : ∀ u ∈ ([b.a, b.b, b.c, b.d] : List Value), u.oneCell' = true := q4_one hb1
 obtain ⟨vs, hvs⟩ : ∃ vs : List Value, [b.a, b.b, b.c, b.d] = vs := ⟨_, rfl⟩
 have hvl : vs.length = 4 := by rw [← hvs]; rfl
 have HVA : (#[b.a, b.b, b.c, b.d] : Array Value) = vs.toArray := by rw [← hvs]
 have HI : Hid (c4 (insQ l i b) = c4 (l.take i) ++ (vs ++ c4 (l.drop i))) := by show _ = _; rw [insQ_vals, hvs]
 rw [HVA] at hv hvc
 rw [hvs] at hvc hv1
 have HVC : Hid _ := hvc
 clear hvs HVA hvc
 have a1 : (i : Int) ≤ N := by omega
 have a2 : ((1 : Int) == 0) = false := by decide
 have a3 : (N : Int) ≤ cap := by omega
 obtain ⟨XS, hXS⟩ : ∃ XS, XS = c4 (l.drop i) := ⟨_, rfl⟩
 have hXl : XS.length = (N - i) * 4 := by rw [hXS, length_c4, List.length_drop, hll]
 have hX1 : ∀ u ∈ XS, u.oneCell' = true := by rw [hXS]; exact c4_oneCell _ (fun x hx => hl1 x (List.mem_of_mem_drop hx))
 have hXc : ∀ j u, XS[j]? = some u → cur[i * 4 + j]? = some u := by
  intro j u hu
  rw [hXS, ← c4_drop, List.getElem?_drop] at hu
  rw [← hcur, List.getElem?_take] at hu
  split at hu
  ·exact hu
  cases hu
 have HI2 : Hid (c4 (insQ l i b) = cur.take (i * 4) ++ (vs ++ XS)) := by
  show _ = _
  rw [HI.out, hXS, take_cut hcur (Nat.mul_le_mul_right 4 (show i ≤ N by omega)), c4_take]
 have HXc : Hid _ := hXc
 clear hXS hXc HI hcur
 have b1 : ((i : Int) == (N : Int)) = false := by simp; omega
 have b2 : ¬ (cap = i) := by omega
 have b3 : (i : Int) ≤ (N : Int) + 1 := by omega
 have b4 : (i : Int) + 1 ≤ (N : Int) + 1 := by omega
 have b5 : ((i : Int) + 1).toNat = i + 1 := by omega
 have b6 : ((N : Int) + 1).toNat = N + 1 := by omega
 have b7 : (0 : Int) ≤ (i : Int) + 1 := by omega
 have b8 : (0 : Int) ≤ (N : Int) + 1 := by omega
 have b9 : i ≤ N := by omega
 have b10 : i ≤ cap := by omega
 have b11 : (i : Int) ≤ cap := by omega
 have bw : IntKind.i64.wrap ((i : Int) + 1) = (i : Int) + 1 := by rw [IntKind.wrap_i64]; omega
 have hov : ∀ lb cb, (callFunc 116 #[.slice (some ⟨gv, 0, none⟩) 1 1, .slice (some ⟨g, (i + 1) * 4, none⟩) lb cb]).run Tryz.prog w = .ok (.value (.bool false)) w := fun lb cb => ov_falseL w g gv _ lb cb 1 1 cur vs cap 4 R hv hvl hne (by omega)
 have b12 : ¬ (cap = i + 1) := by omega
 have b13 : ¬ ((cap : Int) < (N : Int) + 1) := by omega
 have b14 : (N : Int) + 1 ≤ (cap : Int) := by omega
 have RD := R.below (Below.refl w.heap.size w).drew
 have hv2 : w.drew.heap[gv]? = some (.cells vs.toArray 69 (0, 0)) := hv
 clear own
 go_enter Tryz.func105, Tryz.ntmps105
 go_wp2_with (simp only [hov])
 go_region_law (refine step_copy_k rfl (.tmp 73) (.tmp 76) 31 31 rfl 69 4 Tryz.underlying31 size_list (some ⟨g, (i + 1) * 4, none⟩) (some ⟨g, i * 4, none⟩) (N - i) (cap - (i + 1)) (N + 1 - i) (cap - i) (by simp [Act.eval, Act.put]) (by simp [Act.eval, Act.put]) g ((i + 1) * 4) cur 69 RD.h XS (N - i) (by simp only [Nat.min_def]; split <;> omega) hXl (fun _ => ⟨rfl, _, rfl, fun j v hj => by rw [add_at, RD.cell]; exact HXc.out j v hj⟩) (by omega) hX1 ?_; intro w1 hg1 hb1)
 all_goals
  have hv3 : w1.heap[gv]? = some (.cells vs.toArray 69 (0, 0)) := (hb1.block gv (Array.getElem?_eq_some_iff.1 hv2).1 hne).trans hv2
  clear hov RD
  go_wp2_with (refine wpList_copy_k rfl (.tmp 80) (.tmp 81) 31 31 rfl 69 4 Tryz.underlying31 size_list _ _ _ _ _ _ rfl rfl g (i * 4) (splice cur ((i + 1) * 4) XS) 69 hg1.out vs 1 (by simp only [Nat.min_def]; split <;> omega) hvl (fun _ => ⟨rfl, _, rfl, fun j v hj => HVC.out j v hj w1 hv3⟩) (by rw [length_splice _ _ _ (by omega)]; omega) hv1 ?_; intro w2 hg2 hb2)
  go_ret
  have e3 : (i + 1) * 4 = i * 4 + vs.length := by omega
  have hl2 : (splice (splice cur ((i + 1) * 4) XS) (i * 4) vs).length = cap * 4 := by rw [length_splice _ _ _ (by rw [length_splice _ _ _ (by omega)]; omega), length_splice _ _ _ (by omega)]; exact hRl
  have R2 : Row w2 69 4 g cap (splice (splice cur ((i + 1) * 4) XS) (i * 4) vs) := ⟨hg2.out, hl2, R.m⟩
  refine ⟨g, cap, rfl, R2.owns hbg hroom ?_, ((But.of_below (Below.refl _ _).drew).trans hb1).trans hb2, .inl rfl⟩
  rw [HI2.out, e3, show (N + 1) * 4 = i * 4 + vs.length + XS.length by omega]
  exact splice_two_b (by omega)
theorem lIns_grow (w : World) (base g N cap i gv : Nat) (l : List Q4) (b : Q4) (hi : i < N) (hN : N ≤ 300) (hl1 : ∀ x ∈ l, x.One) (hb1 : b.One) (hroom : cap = N) (own : w.ownsRow base 69 4 (.slice (some ⟨g, 0, none⟩) N cap) N (c4 l)) (hv : w.heap[gv]? = some (.cells #[b.a, b.b, b.c, b.d] 69 (0, 0))) (_hne : gv ≠ g) :
    Calls Tryz.prog 105 #[.slice (some ⟨g, 0, none⟩) N cap, .int .i64 i, .slice (some ⟨gv, 0, none⟩) 1 1] w fun e w' => RetRowL w w' base g (N + 1) (insQ l i b) e := by
 subst hroom
 obtain ⟨i1, hj, hy0, hy1, hy2⟩ := info_parts info_list
 have hll := c4owns_len own
 obtain ⟨hbg, hnc, cur, R, hcur⟩ := Row.of own
 have hm := R.m
 have hml : cap + 1 ≤ maxLen := by unfold maxLen; omega
 unfold maxLen at hm
 have hRl := R.len
 have hvc : ∀ j v, ([b.a, b.b, b.c, b.d] : List Value)[j]? = some v → ∀ W : World, W.heap[gv]? = some (.cells #[b.a, b.b, b.c, b.d] 69 (0, 0)) → W.cell? ((⟨gv, 0, none⟩ : Addr).add j) = some v := by
  intro j v hjv W hW
  rw [add_at, Nat.zero_add]
  simp only [World.cell?, hW]
  simpa using hjv
 have hv1 : ∀ u ∈ ([b.a, b.b, b.c, b.d] : List Value), u.oneCell' = true := q4_one hb1
 obtain ⟨vs, hvs⟩ : ∃ vs : List Value, [b.a, b.b, b.c, b.d] = vs := ⟨_, rfl⟩
 have hvl : vs.length = 4 := by rw [← hvs]; rfl
 have HVA : (#[b.a, b.b, b.c, b.d] : Array Value) = vs.toArray := by rw [← hvs]
 have HI : Hid (c4 (insQ l i b) = c4 (l.take i) ++ (vs ++ c4 (l.drop i))) := by show _ = _; rw [insQ_vals, hvs]
 rw [HVA] at hv hvc
 rw [hvs] at hvc hv1
 have HVC : Hid _ := hvc
 clear hvs HVA hvc
 have a1 : (i : Int) ≤ cap := by omega
 have a2 : ((1 : Int) == 0) = false := by decide
 have a3 : (cap : Int) ≤ cap := by omega
 obtain ⟨XS, hXS⟩ : ∃ XS, XS = c4 (l.drop i) := ⟨_, rfl⟩
 have hXl : XS.length = (cap - i) * 4 := by rw [hXS, length_c4, List.length_drop, hll]
 have hX1 : ∀ u ∈ XS, u.oneCell' = true := by rw [hXS]; exact c4_oneCell _ (fun x hx => hl1 x (List.mem_of_mem_drop hx))
 have hXc : ∀ j u, XS[j]? = some u → cur[i * 4 + j]? = some u := by
  intro j u hu
  rw [hXS, ← c4_drop, List.getElem?_drop] at hu
  rw [← hcur, List.getElem?_take] at hu
  split at hu
  ·exact hu
  cases hu
 have HI2 : Hid (c4 (insQ l i b) = cur.take (i * 4) ++ (vs ++ XS)) := by
  show _ = _
  rw [HI.out, hXS, take_cut hcur (Nat.mul_le_mul_right 4 (show i ≤ cap by omega)), c4_take]
 have HXc : Hid _ := hXc
 clear hXS hXc HI hcur
 have b1 : ((i : Int) == (cap : Int)) = false := by simp; omega
 have b2 : ¬ (cap = i) := by omega
 have b3 : (i : Int) ≤ (cap : Int) + 1 := by omega
 have b4 : (i : Int) + 1 ≤ (cap : Int) + 1 := by omega
 have b5 : ((i : Int) + 1).toNat = i + 1 := by omega
 have b6 : ((cap : Int) + 1).toNat = cap + 1 := by omega
 have b7 : (0 : Int) ≤ (i : Int) + 1 := by omega
 have b8 : (0 : Int) ≤ (cap : Int) + 1 := by omega
 have b9 : i ≤ cap := by omega
 have b10 : i ≤ cap := by omega
 have b11 : (i : Int) ≤ cap := by omega
 have bw : IntKind.i64.wrap ((i : Int) + 1) = (i : Int) + 1 := by rw [IntKind.wrap_i64]; omega
 obtain ⟨K, hK⟩ : ∃ K : Nat, (cap : Int) + 1 - i = (K : Int) := ⟨cap + 1 - i, by omega⟩
 obtain ⟨cap', W, cur', hrun, R', ht, hc', hb'⟩ := grow_zeros (P := Tryz.prog) w 31 3 31 69 i1 _ 4 .i64 .i64 Tryz.underlying31 Tryz.underlying3 hj hy0 hy1 (by omega) rfl ⟨g, 0, none⟩ i cap (cur.take (i * 4)) (by rw [List.length_take]; omega) (fun j v hj => by
  rw [add_at, Nat.zero_add, R.cell]
  rw [List.getElem?_take] at hj
  split at hj
  ·exact hj
  cases hj) K (by omega) (by omega) (by unfold maxLen; omega) (by rw [hy2]; omega)
 have hiK : i + K = cap + 1 := by omega
 rw [hiK] at hrun hc'
 have hcl' := R'.len
 have hg' := R.lt
 have HR : Hid _ := hrun
 have c1 : ¬ (cap' = i) := by omega
 have c2 : ¬ (cap' = i + 1) := by omega
 have c3 : (cap : Int) < (cap : Int) + 1 := by omega
 have hv3 : W.heap[gv]? = some (.cells vs.toArray 69 (0, 0)) := (hb'.block gv (Array.getElem?_eq_some_iff.1 hv).1).trans hv
 have RW := R.below hb'
 clear hrun own
 go_enter Tryz.func105, Tryz.ntmps105
 go_wp2_with (first
  | (at_builtin; refine Lib.wpList_append_run _ rfl (.tmp 34) (.tmp 39) 31 3 rfl _ _ rfl rfl _ _ HR.out ?_)
  | (refine wpList_copy_k rfl (.tmp 43) (.tmp 44) 31 31 rfl 69 4 Tryz.underlying31 size_list _ _ _ _ _ _ rfl rfl w.heap.size (i * 4) cur' 69 R'.h vs 1 (by simp only [Nat.min_def]; split <;> omega) hvl (fun _ => ⟨rfl, _, rfl, fun j v hj => HVC.out j v hj W hv3⟩) (by omega) hv1 ?_; intro w2 hg2 hb2))
 have RD := (RW.but hb2 (by omega)).below (Below.refl w2.heap.size w2).drew
 have hgd : w2.drew.heap[w.heap.size]? = some (.cells (splice cur' (i * 4) vs).toArray 69 (0, 0)) := hg2.out
 go_region_law (refine step_copy_k rfl (.tmp 50) (.tmp 53) 31 31 rfl 69 4 Tryz.underlying31 size_list (some ⟨w.heap.size, (i + 1) * 4, none⟩) (some ⟨g, i * 4, none⟩) (cap - i) (cap' - (i + 1)) (cap - i) (cap - i) (by simp [Act.eval, Act.put]) (by simp [Act.eval, Act.put]) w.heap.size ((i + 1) * 4) (splice cur' (i * 4) vs) 69 hgd XS (cap - i) (by simp only [Nat.min_def]; split <;> omega) hXl (fun _ => ⟨rfl, _, rfl, fun j v hj => by rw [add_at, RD.cell]; exact HXc.out j v hj⟩) (by rw [length_splice _ _ _ (by omega)]; omega) hX1 ?_; intro w3 hg3 hb3)
 all_goals
  clear RD
  go_wp2
  go_ret
  have e3 : (i + 1) * 4 = i * 4 + vs.length := by omega
  have hl2 : (splice (splice cur' (i * 4) vs) ((i + 1) * 4) XS).length = cap' * 4 := by rw [length_splice _ _ _ (by rw [length_splice _ _ _ (by omega)]; omega), length_splice _ _ _ (by omega)]; exact hcl'
  have R2 : Row w3 69 4 w.heap.size cap' (splice (splice cur' (i * 4) vs) ((i + 1) * 4) XS) := ⟨hg3.out, hl2, R'.m⟩
  refine ⟨w.heap.size, cap', rfl, R2.owns (by omega) hc' ?_, ?_, .inr (Nat.le_refl _)⟩
  ·rw [HI2.out, e3, show (cap + 1) * 4 = i * 4 + vs.length + XS.length by omega, splice_two_a (by omega), ht]
  have hbl : Below w.heap.size w w3 := hb'.trans ((hb2.trans ((But.of_below (Below.refl _ _).drew).trans hb3)).below (Nat.le_refl _) hb'.size)
  exact .of_below hbl
theorem lIns_any (w : World) (base g N cap i gv : Nat) (l : List Q4) (b : Q4) (hi : i ≤ N) (hN : N ≤ 300) (hl1 : ∀ x ∈ l, x.One) (hb1 : b.One) (own : w.ownsRow base 69 4 (.slice (some ⟨g, 0, none⟩) N cap) N (c4 l)) (hv : w.heap[gv]? = some (.cells #[b.a, b.b, b.c, b.d] 69 (0, 0))) (hne : gv ≠ g) :
    Calls Tryz.prog 105 #[.slice (some ⟨g, 0, none⟩) N cap, .int .i64 i, .slice (some ⟨gv, 0, none⟩) 1 1] w fun e w' => RetRowL w w' base g (N + 1) (insQ l i b) e := by
 have := owns_cap own
 by_cases h1 : i = N
 ·exact lIns_end w base g N cap i gv l b h1 hN hl1 hb1 own hv hne
 by_cases h2 : N + 1 ≤ cap
 ·exact lIns_shift w base g N cap i gv l b (by omega) hN hl1 hb1 h2 own hv hne
 exact lIns_grow w base g N cap i gv l b (by omega) hN hl1 hb1 (by omega) own hv hne
theorem lIns_nil (w : World) (base gv : Nat) (b : Q4) (hb1 : b.One) (hbs : base ≤ w.heap.size) (hv : w.heap[gv]? = some (.cells #[b.a, b.b, b.c, b.d] 69 (0, 0))) :
    Calls Tryz.prog 105 #[.slice none 0 0, .int .i64 0, .slice (some ⟨gv, 0, none⟩) 1 1] w fun e w' =>
     ∃ g' cap', e = .returned (.slice (some ⟨g', 0, none⟩) 1 cap') ∧ w'.ownsRow base 69 4 (.slice (some ⟨g', 0, none⟩) 1 cap') 1 (c4 [b]) ∧ w.heap.size ≤ g' ∧ Below w.heap.size w w' := by
 obtain ⟨i1, hj, hy0, hy1, hy2⟩ := info_parts info_list
 have hvc : ∀ j v, ([b.a, b.b, b.c, b.d] : List Value)[j]? = some v → w.cell? ((⟨gv, 0, none⟩ : Addr).add j) = some v := by
  intro j v hjv
  rw [add_at, Nat.zero_add]
  simp only [World.cell?, hv]
  simpa using hjv
 have hv1 := q4_one hb1
 obtain ⟨vs, hvs⟩ : ∃ vs : List Value, [b.a, b.b, b.c, b.d] = vs := ⟨_, rfl⟩
 have hvl : vs.length = 1 * 4 := by rw [← hvs]; rfl
 have hc4 : Hid (c4 [b] = vs) := by show _ = _; rw [← hvs]; rfl
 rw [hvs] at hvc hv1
 clear hvs hv
 obtain ⟨v', w1, hrun, hown, hgrow, _⟩ := run_append_own (P := Tryz.prog) w w.heap.size 31 31 69 i1 (.agg #[.int .i64 0, .int .i64 0, .int .i64 0, .slice none 0 0]) 4 48 Tryz.underlying31 hj hy0 hy1 hy2 rfl (by decide) (.slice none 0 0) 0 [] (World.ownsRow_nil _ _ _ _) ⟨gv, 0, none⟩ 1 1 vs hvl hvc hv1 (by unfold maxLen; omega) (by omega) (Nat.le_refl _)
 rw [List.nil_append, Nat.zero_add] at hown
 have hb' : Below w.heap.size w w1 := (Below.refl _ _).grown hgrow (Nat.le_refl _) (by simp [Value.ownBlock])
 have hsh : ∃ g' cap', v' = .slice (some ⟨g', 0, none⟩) 1 cap' ∧ w.heap.size ≤ g' := by
  rcases hown.2 with ⟨e1, e2⟩ | ⟨g, cap', cur, e1, hB, _⟩
  ·cases e2
  exact ⟨g, cap', e1, hB⟩
 obtain ⟨g', cap', rfl, hg'⟩ := hsh
 replace hown := owns_weaken hown hbs
 have HR : Hid _ := hrun
 clear hrun hgrow
 go_enter Tryz.func105, Tryz.ntmps105
 go_wp2_with (at_builtin; refine Lib.wpList_append_run _ rfl (.tmp 23) (.tmp 24) 31 31 rfl _ _ rfl rfl _ _ HR.out ?_)
 all_goals
  go_ret
  exact ⟨g', cap', rfl, by rw [hc4.out]; exact hown, hg', hb'⟩
def WrL (lo : Option Addr) (g' : Nat) (w w' : World) : Prop :=
 (∃ g, lo = some ⟨g, 0, none⟩ ∧ But g w w' ∧ (g' = g ∨ w.heap.size ≤ g')) ∨ (lo = none ∧ Below w.heap.size w w' ∧ w.heap.size ≤ g')
theorem lIns_all (w : World) (base n cap i gv : Nat) (lo : Option Addr) (l : List Q4) (b : Q4) (hi : i ≤ n) (hN : n ≤ 300) (hl1 : ∀ x ∈ l, x.One) (hb1 : b.One) (hbs : base ≤ w.heap.size) (own : w.ownsRow base 69 4 (.slice lo n cap) n (c4 l)) (hv : w.heap[gv]? = some (.cells #[b.a, b.b, b.c, b.d] 69 (0, 0))) (hne : ∀ a, lo = some a → gv ≠ a.block) :
    Calls Tryz.prog 105 #[.slice lo n cap, .int .i64 i, .slice (some ⟨gv, 0, none⟩) 1 1] w fun e w' =>
     ∃ g' cap', e = .returned (.slice (some ⟨g', 0, none⟩) (n + 1 : Nat) cap') ∧ w'.ownsRow base 69 4 (.slice (some ⟨g', 0, none⟩) (n + 1) cap') (n + 1) (c4 (insQ l i b)) ∧ WrL lo g' w w' := by
 cases lo with
 | none =>
  rcases own.2 with ⟨e1, e2⟩ | ⟨g, cap', cur, e1, _⟩
  ·simp only [Value.slice.injEq, true_and] at e1
   obtain ⟨rfl, rfl⟩ := e1
   have hl : l = [] := List.eq_nil_of_length_eq_zero (by have := own.1; rw [length_c4] at this; omega)
   subst hl
   obtain rfl : i = 0 := by omega
   refine (lIns_nil w base gv b hb1 hbs hv).mono ?_
   rintro e w' ⟨g', cap', rfl, h1, h2, h3⟩
   exact ⟨g', cap', rfl, h1, .inr ⟨rfl, h3, h2⟩⟩
  cases e1
 | some a =>
  obtain ⟨g, rfl⟩ : ∃ g, a = ⟨g, 0, none⟩ := by
   rcases own.2 with ⟨e1, _⟩ | ⟨g, cap', cur, e1, _⟩
   ·cases e1
   simp only [Value.slice.injEq, Option.some.injEq] at e1
   exact ⟨g, e1.1⟩
  refine (lIns_any w base g n cap i gv l b hi hN hl1 hb1 own hv (hne _ rfl)).mono ?_
  rintro e w' ⟨g', cap', rfl, h1, h2, h3⟩
  exact ⟨g', cap', rfl, h1, .inl ⟨g, rfl, h2, h3⟩⟩
end Go.Proofs.YtjohdbiipeedkaaGreatDoor
namespace Go.Proofs.YtjohdbiipeedkaaGreatDoor.Kit
open Go Go.RowKit
variable {P : Program} {C : World → Prop} {L : List (Nat × Value)} {o : Oper} {x y : Operand} {t u : TypeId} {a : Int} {k k' : IntKind}
theorem y_conv {c : Int} (ho : o.op = .convert t u x) (hx : ev L x = some (.int k' a)) (ht : (P.underlying t).isSome = true) (hu : P.underlying u = some (.int k)) (hc : k.wrap a = c) : YC P C L o (.int k c) := by
 intro ρ hρ wx _
 obtain ⟨d, hd⟩ := Option.isSome_iff_exists.1 ht
 subst hc
 have e : (convert t u (.int k' a)).run P wx = .ok (.int k (k.wrap a)) wx := by
  simp [convert, run_underlying hd, run_underlying hu, Conv.intToInt]
 simp [execOp, ho, hρ _ _ hx, e, go_sem]
theorem y_half {c : Int} (ho : o.op = .binOp .shr t x (.const (.int .u64 1)) u) (hx : ev L x = some (.int .u64 a)) (hc : a / 2 = c) : YC P C L o (.int .u64 c) := by
 intro ρ hρ wx _
 subst hc
 have h1 := hρ (.const (.int .u64 1)) _ rfl
 have e : Int.fdiv a (2 ^ (min (1 : Int).toNat (IntKind.u64).bits)) = a / 2 := by
  show Int.fdiv a 2 = a / 2
  rw [Int.fdiv_eq_ediv_of_nonneg]
  omega
 simp [execOp, ho, hρ _ _ hx, h1, binOp, Op.shift, go_sem]
 exact e
theorem wrap_u {a : Int} (h0 : 0 ≤ a) (h1 : a ≤ 9223372036854775807) : IntKind.u64.wrap a = a := by
 unfold IntKind.wrap IntKind.signed IntKind.bits
 simp
 omega
theorem wrap_i {a : Int} (h0 : 0 ≤ a) (h1 : a ≤ 9223372036854775807) : IntKind.i64.wrap a = a := by
 rw [IntKind.wrap_i64]
 omega
structure Bu2 (g z : Nat) (w w' : World) : Prop where
 os : w'.os = w.os
 tape : w'.tape = w.tape
 output : w'.output = w.output
 size : w.heap.size ≤ w'.heap.size
 block : ∀ k, k < w.heap.size → k ≠ g → k ≠ z → w'.heap[k]? = w.heap[k]?
theorem Bu2.refl (g z : Nat) (w : World) : Bu2 g z w w := ⟨rfl, rfl, rfl, Nat.le_refl _, fun _ _ _ _ => rfl⟩
theorem Bu2.trans {g z : Nat} {w w' w'' : World} (h : Bu2 g z w w') (k : Bu2 g z w' w'') : Bu2 g z w w'' :=
 ⟨k.os.trans h.os, k.tape.trans h.tape, k.output.trans h.output, Nat.le_trans h.size k.size, fun j hj h1 h2 => (k.block j (Nat.lt_of_lt_of_le hj h.size) h1 h2).trans (h.block j hj h1 h2)⟩
theorem Bu2.of_but_g {g z : Nat} {w w' : World} (h : But g w w') : Bu2 g z w w' := ⟨h.os, h.tape, h.output, h.size, fun k hk h1 _ => h.block k hk h1⟩
theorem Bu2.of_but_z {g z : Nat} {w w' : World} (h : But z w w') : Bu2 g z w w' := ⟨h.os, h.tape, h.output, h.size, fun k hk _ h1 => h.block k hk h1⟩
theorem Bu2.of_below {g z : Nat} {w w' : World} (h : Below w.heap.size w w') : Bu2 g z w w' := ⟨h.os, h.tape, h.output, h.size, fun k hk _ _ => h.block k hk⟩
theorem Bu2.below {g z B : Nat} {w w' : World} (h : Bu2 g z w w') (hg : B ≤ g) (hz : B ≤ z) (hB : B ≤ w.heap.size) : Below B w w' := ⟨h.os, h.tape, h.output, h.size, fun k hk => h.block k (by omega) (by omega) (by omega)⟩
theorem Bu2.cell {g z c o : Nat} {v : Value} {w w' : World} (h : Bu2 g z w w') (hc : w.cell? ⟨c, o, none⟩ = some v) (h1 : c ≠ g) (h2 : c ≠ z) : w'.cell? ⟨c, o, none⟩ = some v :=
 (World.cell?_of_block (a := ⟨c, o, none⟩) (h.block c (World.block_lt_of_cell? w _ hc) h1 h2)).trans hc
theorem Bu2.zbox {g z b : Nat} {w w' : World} {x y u v : Value} (h : Bu2 g z w w') (hz : ZBox w b x y u v) (h1 : b ≠ g) (h2 : b ≠ z) : ZBox w' b x y u v := by
 have hb := h.block b hz.lt h1 h2
 exact ⟨h.cell hz.c0 h1 h2, h.cell hz.c1 h1 h2, h.cell hz.c2 h1 h2, h.cell hz.c3 h1 h2, (World.frozen?_of_block (a := ⟨b, 0, none⟩) hb).trans hz.z0, (World.frozen?_of_block (a := ⟨b, 1, none⟩) hb).trans hz.z1, (World.frozen?_of_block (a := ⟨b, 2, none⟩) hb).trans hz.z2, (World.frozen?_of_block (a := ⟨b, 3, none⟩) hb).trans hz.z3⟩
theorem Bu2.res {g z b : Nat} {w w' : World} (h : Bu2 g z w w') (hz : Res4 w b) (h1 : b ≠ g) (h2 : b ≠ z) : Res4 w' b := by
 obtain ⟨⟨v0, e0⟩, ⟨v1, e1⟩, ⟨v2, e2⟩, ⟨v3, e3⟩, z0, z1, z2, z3⟩ := hz
 exact (h.zbox ⟨e0, e1, e2, e3, z0, z1, z2, z3⟩ h1 h2).res
theorem Bu2.owns {g z b : Nat} {w w' : World} {base : Nat} {e : TypeId} {size n cap : Nat} {xs : List Value} (h : Bu2 g z w w') (ho : w.ownsRow base e size (.slice (some ⟨b, 0, none⟩) n cap) n xs) (h1 : b ≠ g) (h2 : b ≠ z) : w'.ownsRow base e size (.slice (some ⟨b, 0, none⟩) n cap) n xs := by
 obtain ⟨hb, hn, cur, R, ht⟩ := Row.of ho
 exact Row.owns ⟨(h.block b R.lt h1 h2).trans R.h, R.len, R.m⟩ hb hn ht
theorem own_but {w w' : World} {base : Nat} {e : TypeId} {g n cap size c : Nat} {xs : List Value} (h : w.ownsRow base e size (.slice (some ⟨g, 0, none⟩) n cap) n xs) (hb : But c w w') (hne : g ≠ c) :
    w'.ownsRow base e size (.slice (some ⟨g, 0, none⟩) n cap) n xs := by
 obtain ⟨h1, h2, cur, R, ht⟩ := Row.of h
 exact (R.but hb hne).owns h1 h2 ht
def Inc (l : List Bk) : Prop := l.Pairwise fun p q => p.a < q.a
theorem Inc.drop {l : List Bk} (h : Inc l) (a o : Int) : Inc (dropB l a o) := List.Pairwise.filter _ h
theorem inc_of_free {f t lo : Int} {pv : Option Bk} {l : List Bk} (h : FreeOk f t lo pv l) : Inc l := by
 suffices H : ∀ (l : List Bk) (lo : Int) (pv : Option Bk), FreeOk f t lo pv l → (∀ b ∈ l, lo ≤ b.a) ∧ Inc l from (H l lo pv h).2
 intro l
 induction l with
 | nil => intro lo pv _; exact ⟨fun b hb => by simp at hb, List.Pairwise.nil⟩
 | cons b l ih =>
  intro lo pv h
  obtain ⟨_, _, h3, _, h5⟩ := h
  obtain ⟨i1, i2⟩ := ih _ _ h5
  have hp := pw_pos b.o
  refine ⟨fun x hx => ?_, List.Pairwise.cons (fun x hx => by have := i1 x hx; omega) i2⟩
  rcases List.mem_cons.1 hx with rfl | hx
  ·exact h3
  have := i1 x hx; omega
theorem drop_none {l : List Bk} {a o : Int} (h : ∀ b ∈ l, isB a o b = false) : dropB l a o = l := by
 unfold dropB
 rw [List.filter_eq_self]
 intro b hb
 rw [h b hb]; rfl
theorem erase_eq {l : List Bk} (hI : Inc l) {a o : Int} {i : Nat} (hi : i < l.length) (h : isB a o (l.getD i .zero) = true) : l.eraseIdx i = dropB l a o := by
 induction l generalizing i with
 | nil => simp at hi
 | cons b l ih =>
  have hI' := List.pairwise_cons.1 hI
  cases i with
  | zero =>
   have hb : isB a o b = true := by simpa using h
   have e : b.a = a := (of_decide_eq_true hb).1
   have : dropB (b :: l) a o = dropB l a o := by unfold dropB; rw [List.filter_cons]; simp [hb]
   rw [this, drop_none (fun x hx => decide_eq_false (fun g => by have := hI'.1 x hx; rw [e, g.1] at this; omega))]
   rfl
  | succ i =>
   have h' : isB a o (l.getD i .zero) = true := by simpa using h
   have hi' : i < l.length := by simpa using hi
   have e : (l.getD i .zero).a = a := (of_decide_eq_true h').1
   have hm : l.getD i .zero ∈ l := by rw [List.getD_eq_getElem?_getD, List.getElem?_eq_getElem hi']; exact List.getElem_mem _
   have hb : isB a o b = false := decide_eq_false (fun g => by have := hI'.1 _ hm; rw [e, g.1] at this; omega)
   have : dropB (b :: l) a o = b :: dropB l a o := by unfold dropB; rw [List.filter_cons]; simp [hb]
   rw [this, List.eraseIdx_cons_succ, ih hI'.2 hi' h']
theorem has_of {l : List Bk} {a o : Int} {i : Nat} (hi : i < l.length) (h : isB a o (l.getD i .zero) = true) : hasB l a o = true := by
 unfold hasB
 rw [List.any_eq_true]
 exact ⟨l[i], List.getElem_mem _, by rw [List.getD_eq_getElem?_getD, List.getElem?_eq_getElem hi] at h; exact h⟩
theorem has_none {l : List Bk} {a o : Int} (h : ∀ j, j < l.length → isB a o (l.getD j .zero) = false) : hasB l a o = false := by
 unfold hasB
 rw [List.any_eq_false]
 intro x hx
 obtain ⟨i, hi, rfl⟩ := List.getElem_of_mem hx
 have := h i hi
 rw [List.getD_eq_getElem?_getD, List.getElem?_eq_getElem hi] at this
 simp only [Option.getD_some] at this
 simp [this]
def preL {α : Type} (F : α → List Bk) (d : α) (l : List α) (i k : Nat) : List Bk := (l.take i).flatMap F ++ (F (l.getD i d)).take k
theorem Bu2.grow {g z : Nat} {w w' w'' : World} (h : Bu2 g z w w') (hb : Below w'.heap.size w' w'') : Bu2 g z w w'' := h.trans (Bu2.of_below hb)
theorem Bu2.start (g z : Nat) {w w' : World} (h : ({ w with drawn := w.drawn + 1 } : World) = w') : Bu2 g z w w' := by
 subst h
 exact Bu2.of_below ((Below.refl w.heap.size w).drew)
theorem drawn_b {w w' : World} (h : ({ w with drawn := w.drawn + 1 } : World) = w') : Below w.heap.size w w' := by
 subst h
 exact (Below.refl w.heap.size w).drew
theorem Bu2.row {g z b : Nat} {w w' : World} {o : Obj} (h : Bu2 g z w w') (hr : w.heap[b]? = some o) (h1 : b ≠ g) (h2 : b ≠ z) : w'.heap[b]? = some o := by
 rw [h.block b (Array.getElem?_eq_some_iff.1 hr).1 h1 h2]; exact hr
end Go.Proofs.YtjohdbiipeedkaaGreatDoor.Kit
namespace Go.Proofs.YtjohdbiipeedkaaGreatDoor
open Go Go.RowKit Go.Proofs.YtjohdbiipeedkaaGreatDoor.Kit
theorem lss_to {x : Hx} (hw : ∃ w, x.At w) (hz : ZsOk x.hp) (h : LssOk x.hp) : LssOkX x := by
 obtain ⟨w, hx⟩ := hw
 have e1 : x.hp.lists.length = x.ln := by show (x.ls.map _).length = _; rw [List.length_map]; exact hx.lists.len
 have e2 : x.zn = 2 := by have := hz.n; have e : x.hp.zones.length = x.zn := by show (x.zs.map _).length = _; rw [List.length_map]; exact hx.zones.len
                          omega
 refine ⟨fun i hi => ?_, fun i h0 hi => ?_⟩
 ·have := h.ok i (by omega)
  rw [listOf_hp] at this
  have hc := this.c
  have hp := this.p
  rw [zoneOf_hp] at hp
  exact ⟨⟨hc.1, by have : x.hp.cpus = x.cpus := rfl; omega⟩, by have := this.z; omega, this.t, this.n, hp⟩
 have := h.ord i h0 (by omega)
 rw [listOf_hp, listOf_hp] at this
 exact this
theorem lss_of {x : Hx} (hw : ∃ w, x.At w) (hz : ZsOk x.hp) (h : LssOkX x) : LssOk x.hp := by
 obtain ⟨w, hx⟩ := hw
 have e1 : x.hp.lists.length = x.ln := by show (x.ls.map _).length = _; rw [List.length_map]; exact hx.lists.len
 have e2 : x.zn = 2 := by have := hz.n; have e : x.hp.zones.length = x.zn := by show (x.zs.map _).length = _; rw [List.length_map]; exact hx.zones.len
                          omega
 refine ⟨fun i hi => ?_, fun i h0 hi => ?_⟩
 ·have := h.ok i (by omega)
  rw [listOf_hp]
  have hc := this.c
  have hp := this.p
  exact ⟨⟨hc.1, by have : x.hp.cpus = x.cpus := rfl; omega⟩, by have := this.z; omega, this.t, this.n, by rw [zoneOf_hp]; exact hp⟩
 have := h.ord i h0 (by omega)
 rw [listOf_hp, listOf_hp]
 exact this
theorem free_inP {z : Zn} (h : ZMay z) (i : Nat) (hi : i < z.free.length) : InP (z.free.getD i .zero) := by
 have hb := (freeOk_at h.free hi rfl).1
 obtain ⟨n1, n2, n3, n4, n5⟩ := h.new
 obtain ⟨o, b1, b2, b3⟩ := hb
 refine ⟨o, by omega, ?_⟩
 rcases ord_cases o with ⟨e, q⟩ | ⟨e, q⟩ | ⟨e, q⟩ | ⟨e, q⟩ | ⟨e, q⟩ <;> rw [q] at b3 ⊢ <;> omega
theorem two_zones {x : Hx} (hz : ZsOk x.hp) : ∀ z ∈ x.zs, z = x.zs.getD 0 .zero ∨ z = x.zs.getD 1 .zero := by
 intro z hm
 have hn : x.zs.length = 2 := by have := hz.n; have e : x.hp.zones.length = x.zs.length := by show (x.zs.map _).length = _; rw [List.length_map]
                                 omega
 obtain ⟨i, hi, rfl⟩ := List.getElem_of_mem hm
 rcases (show i = 0 ∨ i = 1 by omega) with rfl | rfl
 ·left; rw [List.getD_eq_getElem?_getD, List.getElem?_eq_getElem hi]; rfl
 right; rw [List.getD_eq_getElem?_getD, List.getElem?_eq_getElem hi]; rfl
theorem free_in {x : Hx} (hz : ZsOk x.hp) : ∀ z ∈ x.zs, ∀ i, i < z.z.free.length → InP (z.z.free.getD i .zero) := by
 intro z hm i hi
 have h0 := hz.m0
 have h1 := hz.m1
 rw [zoneOf_hp] at h0 h1
 rcases two_zones hz z hm with rfl | rfl
 ·exact free_inP h0 i hi
 exact free_inP h1 i hi
theorem page_inL {x : Hx} (hz : ZsOk x.hp) (hl : LssOk x.hp) : ∀ l ∈ x.ls, ∀ i, i < l.l.pages.length → 0 ≤ l.l.pages.getD i 0 ∧ l.l.pages.getD i 0 < 256 := by
 intro l hm i hi
 obtain ⟨k, hk, rfl⟩ := List.getElem_of_mem hm
 have h := hl.ok k (by show k < (x.ls.map _).length; rw [List.length_map]; exact hk)
 rw [listOf_hp] at h
 have e : x.ls.getD k .zero = x.ls[k] := by rw [List.getD_eq_getElem?_getD, List.getElem?_eq_getElem hk]; rfl
 rw [e] at h
 have hp := h.p i hi
 have hzz := h.z
 have h0 := hz.m0.new
 have h1 := hz.m1.new
 have f0 := hz.f0
 have f1 := hz.f1
 have t1 := hz.t1
 obtain ⟨a1, a2, a3, _, _⟩ := h0
 obtain ⟨b1, b2, b3, _, _⟩ := h1
 rcases (show x.ls[k].l.z.toNat = 0 ∨ x.ls[k].l.z.toNat = 1 by omega) with q | q
 ·rw [q] at hp; omega
 rw [q] at hp; omega
theorem live_in {l : List Bk} (h : LvsOk l) : ∀ i, i < l.length → InP (l.getD i .zero) := fun i hi => (h.ok i hi).inP
theorem pCheck_any (w : World) (x : Hx) (hx : x.At w) :
    Calls Tryz.prog 12 #[.agg #[.slice x.zo x.zn x.zc, .slice x.mo x.mn x.mc, .int .i64 x.cpus, .slice x.lo x.ln x.lc, .slice x.vo x.vn x.vc]] w fun e w' => (∃ c, e = .returned (.int .i64 c) ∧ (c = 0 ∧ HMay x.hp ∨ c = 8 ∧ ¬ HMay x.hp)) ∧ Below w.heap.size w w' := by
 have hex : ∃ w, x.At w := ⟨w, hx⟩
 have hb1 := below_box w (.cells #[.slice x.zo x.zn x.zc, .slice x.mo x.mn x.mc, .int .i64 x.cpus, .slice x.lo x.ln x.lc, .slice x.vo x.vn x.vc] 34)
 have A1 := hbox_new w (.slice x.zo x.zn x.zc) (.slice x.mo x.mn x.mc) (.int .i64 x.cpus) (.slice x.lo x.ln x.lc) (.slice x.vo x.vn x.vc) 34
 obtain ⟨W0, hW0⟩ : ∃ W0, w.alloc (.cells #[.slice x.zo x.zn x.zc, .slice x.mo x.mn x.mc, .int .i64 x.cpus, .slice x.lo x.ln x.lc, .slice x.vo x.vn x.vc] 34) = W0 := ⟨_, rfl⟩
 rw [hW0] at A1 hb1
 have HW0 : Hid _ := hW0
 clear hW0
 replace hx := hx.below hb1
 have HNo : Hid (∀ e, (e = Ending.returned (.int .i64 8)) → ¬ HMay x.hp → (∃ c, e = .returned (.int .i64 c) ∧ (c = 0 ∧ HMay x.hp ∨ c = 8 ∧ ¬ HMay x.hp))) := fun e he hn => ⟨8, he, .inr ⟨rfl, hn⟩⟩
 have HX0 := pZonesMay_any W0 x hx
 have c0 := A1.c0
 go_enter Tryz.func12, Tryz.ntmps12
 go_wp2_with (rw [HW0.out])
 clear HW0
 go_at_call 31
 refine HX0.mono ?_
 rintro e W1 ⟨⟨r, rfl, hr⟩, hb⟩
 have hB : Below w.heap.size w W1 := hb1.trans (hb.mono hb1.size)
 replace A1 := A1.below hb
 replace hx := hx.below hb
 clear hb HX0 hb1 c0
 have HR : Hid _ := hr
 clear hr
 cases r with
 | false =>
  have hn : Hid (¬ HMay x.hp) := fun h => absurd (HR.out.2 h.zs) (by simp)
  clear HR A1
  go_wp2
  go_ret
  exact ⟨HNo.out _ rfl hn.out, hB⟩
 | true =>
 have Hz : Hid (ZsOk x.hp) := HR.out.1 rfl
 clear HR
 have HX1 := pMinsMay_any W1 x hx
 have c1 := A1.c1
 go_wp2_with fail
 go_at_call 32
 refine HX1.mono ?_
 rintro e W2 ⟨⟨r, rfl, hr⟩, hb⟩
 replace hB := hB.trans (hb.mono hB.size)
 replace A1 := A1.below hb
 replace hx := hx.below hb
 clear hb HX1 c1
 have HR : Hid _ := hr
 clear hr
 cases r with
 | false =>
  have hn : Hid (¬ HMay x.hp) := fun h => absurd (HR.out.2 h.mn) (by simp)
  clear HR A1
  go_wp2
  go_ret
  exact ⟨HNo.out _ rfl hn.out, hB⟩
 | true =>
 have Hm : Hid (MnOk x.hp) := HR.out.1 rfl
 clear HR
 have HX2 := pAreCpus_any W2 x.cpus
 have c2 := A1.c2
 go_wp2_with fail
 go_at_call 33
 refine HX2.mono ?_
 rintro e W2' ⟨rfl, rfl⟩
 clear HX2 c2
 by_cases hc : 1 ≤ x.cpus ∧ x.cpus ≤ 4
 rotate_left
 ·rw [inB_f hc]
  have hn : Hid (¬ HMay x.hp) := fun h => hc h.cpus
  clear A1
  go_wp2
  go_ret
  exact ⟨HNo.out _ rfl hn.out, hB⟩
 rw [inB_t hc]
 have HX3 := pListsMay_any W2 x hx
 have c0 := A1.c0
 have c1 := A1.c1
 have c2 := A1.c2
 have c3 := A1.c3
 have c4 := A1.c4
 go_wp2_with fail
 go_at_call 34
 refine HX3.mono ?_
 rintro e W3 ⟨⟨r, rfl, hr⟩, hb⟩
 replace hB := hB.trans (hb.mono hB.size)
 replace A1 := A1.below hb
 replace hx := hx.below hb
 clear hb HX3 c0 c1 c2 c3 c4
 have HR : Hid _ := hr
 clear hr
 cases r with
 | false =>
  have hn : Hid (¬ HMay x.hp) := fun h => absurd (HR.out.2 (lss_to hex h.zs h.ls)) (by simp)
  clear HR A1
  go_wp2
  go_ret
  exact ⟨HNo.out _ rfl hn.out, hB⟩
 | true =>
 have Hl : Hid (LssOk x.hp) := lss_of hex Hz.out (HR.out.1 rfl)
 clear HR
 have HX4 := pLiveMay_any W3 x.vo x.vn x.vc x.live hx.live
 have c4 := A1.c4
 go_wp2_with fail
 go_at_call 35
 refine HX4.mono ?_
 rintro e W4 ⟨⟨r, rfl, hr⟩, hb⟩
 replace hB := hB.trans (hb.mono hB.size)
 replace A1 := A1.below hb
 replace hx := hx.below hb
 clear hb HX4 c4
 have HR : Hid _ := hr
 clear hr
 cases r with
 | false =>
  have hn : Hid (¬ HMay x.hp) := fun h => absurd (HR.out.2 h.lv) (by simp)
  clear HR A1
  go_wp2
  go_ret
  exact ⟨HNo.out _ rfl hn.out, hB⟩
 | true =>
 have Hv : Hid (LvsOk x.live) := HR.out.1 rfl
 clear HR
 have HX5 := pApart_any W4 x hx (free_in Hz.out) (page_inL Hz.out Hl.out) (live_in Hv.out)
 have c0 := A1.c0
 have c1 := A1.c1
 have c2 := A1.c2
 have c3 := A1.c3
 have c4 := A1.c4
 go_wp2_with fail
 go_at_call 36
 refine HX5.mono ?_
 rintro e W5 ⟨⟨r, rfl, hr⟩, hb⟩
 replace hB := hB.trans (hb.mono hB.size)
 clear hb HX5 c0 c1 c2 c3 c4 A1
 have HR : Hid _ := hr
 clear hr
 cases r with
 | false =>
  have hn : Hid (¬ HMay x.hp) := fun h => absurd (HR.out.2 h.apart) (by simp)
  clear HR
  go_wp2
  go_ret
  exact ⟨HNo.out _ rfl hn.out, hB⟩
 | true =>
  have hy : Hid (HMay x.hp) := ⟨Hz.out, Hm.out, hc, Hl.out, Hv.out, HR.out.1 rfl⟩
  clear HR
  go_wp2
  go_ret
  exact ⟨⟨0, rfl, .inl ⟨rfl, hy.out⟩⟩, hB⟩
def zIdx (H : Hp) (p : Int) : Nat := if p < (H.zones.getD 0 ⟨0, 0, [], []⟩).t then 0 else 1
theorem zIdx_lt (H : Hp) (p : Int) : zIdx H p < 2 := by unfold zIdx; split <;> omega
theorem pZoneOf_c (w : World) (x : Hx) (p : Int) (hx : x.At w) (hz : x.zn = 2) :
    Calls Tryz.prog 83 #[.agg #[.slice x.zo x.zn x.zc, .slice x.mo x.mn x.mc, .int .i64 x.cpus, .slice x.lo x.ln x.lc, .slice x.vo x.vn x.vc], .int .i64 p] w fun e w' => e = .returned (.int .i64 (zIdx x.hp p : Nat)) ∧ Below w.heap.size w w' := by
 have B0 := Below.refl w.heap.size w
 refine sx_enter (args := [_, _]) 12 Tryz.func83 rfl rfl rfl ?_
 refine vS (vR ?_); intro A f
 refine l_box f rfl rfl rfl rfl rfl ?_; clear f A; intro b1 W2 eb1 hb3 rb1 A f; dsimp only [Value.cells] at rb1
 have z_B0_b1 := B0.size; rw [eb1] at z_B0_b1
 replace B0 := Below.next B0 hb3
 revert A; refine vla (h:=vW (vS (vS (vR (vlm (h:=vlf (h:=vl1 (rowq rb1) (h:=?_))))))))
 obtain ⟨g0, o0, z0, fo0, fn0, fc0, to0, tn0, tc0, ha0, c00, c10, c20, c30, hat0, hX0⟩ := hx.zones.at (0) (by omega)
 replace c00 := St.of c00; replace c10 := St.of c10; replace c20 := St.of c20; replace c30 := St.of c30
 refine vlx (j:=0) (h:=vlf (h:=vld (y_load1 rfl rfl (ag rfl) (by first | assumption | exact St.q c00 B0 | exact St.q c10 B0 | exact St.q c20 B0 | exact St.q c30 B0)) (h:=vlb (y_lss rfl rfl rfl) (h:=?_) (g:=?_))))
 ·intro c4
  refine vW (vC (h:=vS (vR (vla (h:=vW (vE (vF ?_))))))); intro A f
  refine x_ret1 f rfl rfl ?_
  have hi : zIdx x.hp p = 0 := by
   unfold zIdx
   rw [zoneOf_hp]
   exact if_pos (by rw [hX0.out]; dsimp only; omega)
  exact ⟨by rw [hi]; rfl, B0⟩
 intro c4
 refine vW (vD (h:=vK (vT (vS (vR (vla (h:=vW (vE ?_)))))))); intro A f
 refine x_ret1 f rfl rfl ?_
 have hi : zIdx x.hp p = 1 := by
  unfold zIdx
  rw [zoneOf_hp]
  exact if_neg (by rw [hX0.out]; dsimp only; omega)
 exact ⟨by rw [hi]; rfl, B0⟩
end Go.Proofs.YtjohdbiipeedkaaGreatDoor
namespace Go.Proofs.YtjohdbiipeedkaaGreatDoor.Kit
def Ahead (p q : Bk) : Prop := p.a + pw p.o ≤ q.a ∧ ¬ besideP p q
def AllIn (f t : Int) (l : List Bk) : Prop := ∀ b ∈ l, blkIn f t b.a b.o ∧ typeOk b.t
theorem freeOk_pw {f t lo : Int} {pv : Option Bk} {l : List Bk} (h : FreeOk f t lo pv l) : AllIn f t l ∧ (∀ b ∈ l, lo ≤ b.a) ∧ l.Pairwise Ahead := by
 induction l generalizing lo pv with
 | nil => exact ⟨fun b hb => by simp at hb, fun b hb => by simp at hb, List.Pairwise.nil⟩
 | cons b l ih =>
  obtain ⟨h1, h2, h3, _, h5⟩ := h
  obtain ⟨i1, i2, i3⟩ := ih h5
  have hp := pw_pos b.o
  refine ⟨fun x hx => ?_, fun x hx => ?_, List.Pairwise.cons (fun x hx => ⟨i2 x hx, ?_⟩) i3⟩
  ·rcases List.mem_cons.1 hx with rfl | hx
   ·exact ⟨h1, h2⟩
   exact i1 x hx
  ·rcases List.mem_cons.1 hx with rfl | hx
   ·exact h3
   have := i2 x hx; omega
  cases l with
  | nil => simp at hx
  | cons c l =>
   obtain ⟨_, _, k3, k4, _⟩ := h5
   rcases List.mem_cons.1 hx with rfl | hx
   ·exact k4 b rfl
   have := (List.pairwise_cons.1 i3).1 x hx
   rintro ⟨_, e2, e3, _⟩
   have := this.1
   have hc := pw_pos c.o
   rw [← e2] at e3
   omega
theorem freeOk_of {f t lo : Int} {pv : Option Bk} {l : List Bk} (h1 : AllIn f t l) (h2 : ∀ b ∈ l, lo ≤ b.a) (h3 : l.Pairwise Ahead) (h4 : ∀ p, pv = some p → ∀ b ∈ l, ¬ besideP p b) : FreeOk f t lo pv l := by
 induction l generalizing lo pv with
 | nil => trivial
 | cons b l ih =>
  have hb := h1 b (by simp)
  have hp := List.pairwise_cons.1 h3
  exact ⟨hb.1, hb.2, h2 b (by simp), fun p e => h4 p e b (by simp), ih (fun x hx => h1 x (by simp [hx])) (fun x hx => (hp.1 x hx).1) hp.2 (fun p e x hx => by cases e; exact (hp.1 x hx).2)⟩
theorem free_iff {f t : Int} {l : List Bk} : FreeOk f t f none l ↔ AllIn f t l ∧ l.Pairwise Ahead :=
 ⟨fun h => ⟨(freeOk_pw h).1, (freeOk_pw h).2.2⟩, fun ⟨h1, h2⟩ => freeOk_of h1 (fun b hb => (h1 b hb).1.2.1) h2 (fun p e => by cases e)⟩
def NoOv (l : List Bk) (a o : Int) : Prop := ∀ b ∈ l, b.a + pw b.o ≤ a ∨ a + pw o ≤ b.a
theorem noOv_of {l : List Bk} {a o : Int} (h : ¬ ovlP l a o) : NoOv l a o := by
 intro b hb
 obtain ⟨i, hi, rfl⟩ := List.getElem_of_mem hb
 by_cases h1 : l[i].a + pw l[i].o ≤ a
 ·exact .inl h1
 by_cases h2 : a + pw o ≤ l[i].a
 ·exact .inr h2
 exact absurd ⟨i, hi, by rw [List.getD_eq_getElem?_getD, List.getElem?_eq_getElem hi]; exact ⟨by simp only [Option.getD_some]; omega, by simp only [Option.getD_some]; omega⟩⟩ h
theorem ahead_or {l : List Bk} (h : l.Pairwise Ahead) {p q : Bk} (hp : p ∈ l) (hq : q ∈ l) (hne : ¬ (p.a = q.a ∧ p.o = q.o)) : Ahead p q ∨ Ahead q p := by
 obtain ⟨i, hi, rfl⟩ := List.getElem_of_mem hp
 obtain ⟨j, hj, rfl⟩ := List.getElem_of_mem hq
 rw [List.pairwise_iff_getElem] at h
 by_cases e : i < j
 ·exact .inl (h i j hi hj e)
 by_cases g : j < i
 ·exact .inr (h j i hj hi g)
 obtain rfl : i = j := by omega
 exact absurd ⟨rfl, rfl⟩ hne
theorem beside_cases {a o : Int} (h0 : 0 ≤ o) (h4 : o < 4) (hm : a % pw o = 0) : pw (o + 1) = 2 * pw o ∧ ((a % pw (o + 1) = 0 ∧ besideA a o = a + pw o) ∨ (¬ a % pw (o + 1) = 0 ∧ besideA a o = a - pw o ∧ a % pw (o + 1) = pw o)) := by
 rcases (show o = 0 ∨ o = 1 ∨ o = 2 ∨ o = 3 by omega) with rfl | rfl | rfl | rfl
 all_goals
  unfold besideA
  simp only [pw_0, pw_1, pw_2, pw_3, pw_4, show (0 : Int) + 1 = 1 from rfl, show (1 : Int) + 1 = 2 from rfl, show (2 : Int) + 1 = 3 from rfl, show (3 : Int) + 1 = 4 from rfl] at hm ⊢
  refine ⟨by omega, ?_⟩
  split
  ·exact .inl ⟨by assumption, rfl⟩
  exact .inr ⟨by assumption, rfl, by omega⟩
structure GoI (f t : Int) (l : List Bk) (a o : Int) : Prop where
 all : AllIn f t l
 pw : l.Pairwise Ahead
 blk : blkIn f t a o
 no : NoOv l a o
theorem go_step {f t : Int} {l : List Bk} {a o : Int} (h : GoI f t l a o) (ho : o < 4) (hb : hasB l (besideA a o) o = true) : GoI f t (dropB l (besideA a o) o) (if besideA a o < a then besideA a o else a) (o + 1) := by
 obtain ⟨⟨o0, o4⟩, a1, a2, a3⟩ := h.blk
 have hbi : blkIn f t (besideA a o) o := hasB_in hb (fun b hb => (h.all b hb).1)
 refine ⟨fun b hb => h.all b (dropB_mem hb), List.Pairwise.filter _ h.pw, join_in h.blk hbi ho, fun b hb' => ?_⟩
 have hbl := dropB_mem hb'
 have hnb : isB (besideA a o) o b = false := by
  have := (List.mem_filter.1 hb').2
  simpa using this
 have hno := h.no b hbl
 unfold hasB at hb
 rw [List.any_eq_true] at hb
 obtain ⟨x, hx, hxi⟩ := hb
 obtain ⟨x1, x2⟩ := of_decide_eq_true hxi
 have hor := ahead_or h.pw hbl hx (by rw [x1, x2]; exact of_decide_eq_false hnb)
 have hp := pw_pos b.o
 have hpo := pw_pos o
 obtain ⟨e2, hc⟩ := beside_cases o0 ho a3
 rw [e2]
 unfold Ahead at hor
 rw [x1, x2] at hor
 rcases hc with ⟨_, hc⟩ | ⟨_, hc, _⟩
 ·rw [hc] at hor ⊢
  rw [if_neg (by omega)]
  rcases hor with ⟨g, _⟩ | ⟨g, _⟩ <;> omega
 rw [hc] at hor ⊢
 rw [if_pos (by omega)]
 rcases hor with ⟨g, _⟩ | ⟨g, _⟩ <;> omega
theorem go_all {f t : Int} : ∀ (n : Nat) (l : List Bk) (a o : Int), (4 - o).toNat = n → GoI f t l a o →
    GoI f t (backGo n l a o).1 (backGo n l a o).2.1 (backGo n l a o).2.2 ∧ ((backGo n l a o).2.2 = 4 ∨ hasB (backGo n l a o).1 (besideA (backGo n l a o).2.1 (backGo n l a o).2.2) (backGo n l a o).2.2 = false) := by
 intro n
 induction n with
 | zero =>
  intro l a o hn h
  have := h.blk.1.2
  exact ⟨h, .inl (by show o = 4; omega)⟩
 | succ n ih =>
  intro l a o hn h
  unfold backGo
  by_cases hb : hasB l (besideA a o) o = true
  ·rw [if_pos hb]
   exact ih _ _ _ (by omega) (go_step h (by omega) hb)
  rw [if_neg hb]
  exact ⟨h, .inr (by simpa using hb)⟩
theorem mem_addB {l : List Bk} {b x : Bk} : x ∈ addB l b ↔ x = b ∨ x ∈ l := by
 induction l with
 | nil => simp [addB]
 | cons y l ih =>
  unfold addB
  split
  ·simp
  simp only [List.mem_cons, ih]
  constructor
  ·rintro (h | h | h)
   ·exact .inr (.inl h)
   ·exact .inl h
   exact .inr (.inr h)
  rintro (h | h | h)
  ·exact .inr (.inl h)
  ·exact .inl h
  exact .inr (.inr h)
theorem addB_pw {l : List Bk} {b : Bk} (h : l.Pairwise Ahead) (hno : NoOv l b.a b.o) (h1 : ∀ x ∈ l, ¬ besideP x b) (h2 : ∀ x ∈ l, ¬ besideP b x) : (addB l b).Pairwise Ahead := by
 have hp := pw_pos b.o
 induction l with
 | nil => exact List.pairwise_singleton _ _
 | cons x l ih =>
  have hx := List.pairwise_cons.1 h
  have hpx := pw_pos x.o
  have hnx := hno x (by simp)
  unfold addB
  split
  ·rename_i hg
   refine List.Pairwise.cons (fun y hy => ⟨?_, h2 y hy⟩) h
   have hny := hno y hy
   rcases List.mem_cons.1 hy with rfl | hy'
   ·omega
   have := (hx.1 y hy').1
   have hpy := pw_pos y.o
   omega
  rename_i hg
  refine List.Pairwise.cons (fun y hy => ?_) (ih hx.2 (fun y hy => hno y (by simp [hy])) (fun y hy => h1 y (by simp [hy])) (fun y hy => h2 y (by simp [hy])))
  rcases mem_addB.1 hy with rfl | hy
  ·exact ⟨by omega, h1 x (by simp)⟩
  exact hx.1 y hy
theorem backZ_may {z : Zn} {a o : Int} (h : ZMay z) (hA : blkIn z.f z.t a o) (hv : ¬ ovlP z.free a o) : ZMay (backZ z a o) := by
 obtain ⟨q1, q2⟩ := free_iff.1 h.free
 obtain ⟨G, hl⟩ := go_all (f := z.f) (t := z.t) (4 - o).toNat z.free a o rfl ⟨q1, q2, hA, noOv_of hv⟩
 obtain ⟨R, hR⟩ : ∃ R, backGo (4 - o).toNat z.free a o = R := ⟨_, rfl⟩
 have hz : backZ z a o = ⟨z.f, z.t, addB R.1 ⟨R.2.1, R.2.2, z.types.getD ((R.2.1 - z.f) / 8).toNat 0⟩, z.types⟩ := by unfold backZ; rw [hR]
 rw [hR] at G hl
 obtain ⟨⟨o0, o4⟩, a1, a2, a3⟩ := G.blk
 have hlen := h.len
 have hty : typeOk (z.types.getD ((R.2.1 - z.f) / 8).toNat 0) := h.ty _ (by omega)
 rw [hz]
 refine ⟨h.new, h.len, h.ty, free_iff.2 ⟨fun b hb => ?_, addB_pw G.pw G.no (fun x hx => ?_) (fun x hx => ?_)⟩⟩
 ·rcases mem_addB.1 hb with rfl | hb
  ·exact ⟨G.blk, hty⟩
  exact G.all b hb
 ·rintro ⟨b1, b2, b3, b4⟩
  dsimp only at b1 b2 b3 b4
  obtain ⟨_, hc⟩ := beside_cases o0 b1 a3
  have hh : besideA R.2.1 R.2.2 = x.a := by
   rcases hc with ⟨g, _⟩ | ⟨_, g, _⟩
   ·exfalso
    rw [← b3] at g
    rcases (show R.2.2 = 0 ∨ R.2.2 = 1 ∨ R.2.2 = 2 ∨ R.2.2 = 3 by omega) with e | e | e | e
    all_goals
     rw [e] at g b4
     simp only [pw_0, pw_1, pw_2, pw_3, pw_4, show (0 : Int) + 1 = 1 from rfl, show (1 : Int) + 1 = 2 from rfl, show (2 : Int) + 1 = 3 from rfl, show (3 : Int) + 1 = 4 from rfl] at g b4
     omega
   omega
  rcases hl with g | g
  ·omega
  rw [hh] at g
  unfold hasB at g
  rw [List.any_eq_false] at g
  exact g x hx (decide_eq_true ⟨rfl, b2⟩)
 rintro ⟨b1, b2, b3, b4⟩
 dsimp only at b1 b2 b3 b4
 rw [← b2] at b1 b3 b4
 have hh : besideA R.2.1 R.2.2 = x.a := by unfold besideA; rw [if_pos b4]; exact b3
 rcases hl with g | g
 ·omega
 rw [hh] at g
 unfold hasB at g
 rw [List.any_eq_false] at g
 exact g x hx (decide_eq_true ⟨rfl, b2.symm⟩)
end Go.Proofs.YtjohdbiipeedkaaGreatDoor.Kit
namespace Go.Proofs.YtjohdbiipeedkaaGreatDoor
open Go Go.RowKit Go.Proofs.YtjohdbiipeedkaaGreatDoor.Kit
theorem splice4 {L : List Value} {o : Nat} (h : o + 4 ≤ L.length) (a b c d : Value) : L.take o ++ [a, b, c, d] ++ L.drop (o + 4) = (((L.set o a).set (o + 1) b).set (o + 2) c).set (o + 3) d := by
 apply List.ext_getElem?
 intro j
 by_cases h1 : j < o
 ·rw [List.append_assoc, List.getElem?_append_left (by simp; omega)]
  simp only [List.getElem?_set]
  rw [if_neg (by omega), if_neg (by omega), if_neg (by omega), if_neg (by omega), List.getElem?_take_of_lt h1]
 by_cases h2 : j < o + 4
 ·rw [List.append_assoc, List.getElem?_append_right (by simp; omega), List.getElem?_append_left (by simp; omega)]
  simp only [List.getElem?_set, List.length_set, List.length_take]
  rw [Nat.min_eq_left (by omega)]
  rcases (show j = o ∨ j = o + 1 ∨ j = o + 2 ∨ j = o + 3 by omega) with rfl | rfl | rfl | rfl
  ·rw [if_neg (by omega), if_neg (by omega), if_neg (by omega), if_pos rfl, if_pos (by omega)]; simp
  ·rw [if_neg (by omega), if_neg (by omega), if_pos rfl, if_pos (by omega)]; simp
  ·rw [if_neg (by omega), if_pos rfl, if_pos (by omega)]; simp
  rw [if_pos rfl, if_pos (by omega)]; simp
 rw [List.getElem?_append_right (by simp; omega)]
 simp only [List.getElem?_set]
 rw [if_neg (by omega), if_neg (by omega), if_neg (by omega), if_neg (by omega), List.getElem?_drop]
 congr 1
 simp
 omega
theorem own_set4 {w : World} {B n cap g : Nat} {e t : TypeId} {l : List Q4} (h : w.ownsRow B e 4 (.slice (some ⟨g, 0, none⟩) n cap) n (c4 l)) {i : Nat} (hi : i < n) (x : Q4) (hx : x.One) (hs : szB Tryz.prog t = some 4) :
    ∃ W, (storeVar t ⟨g, 0 + i * 4, none⟩ (.agg #[x.a, x.b, x.c, x.d])).run Tryz.prog w = .ok () W ∧ But g w W ∧ W.ownsRow B e 4 (.slice (some ⟨g, 0, none⟩) n cap) n (c4 (l.set i x)) := by
 have hl := c4owns_len h
 rcases h.2 with ⟨h', _⟩ | ⟨g', cap', cur, h', hB, hg, hc, hm, hsz, htake⟩
 ·cases h'
 simp only [Value.slice.injEq, Option.some.injEq, Addr.mk.injEq, true_and, and_true] at h'
 obtain ⟨rfl, rfl⟩ := h'
 have hfit : i * 4 + 4 ≤ cur.toList.length := by simp; omega
 have h1 : ∀ v ∈ [x.a, x.b, x.c, x.d], v.oneCell' = true := by
  intro v hv
  obtain ⟨p, q, r, s⟩ := hx
  simp only [List.mem_cons, List.not_mem_nil, or_false] at hv
  rcases hv with rfl | rfl | rfl | rfl <;> assumption
 have hrun := run_storeCells_at (P := Tryz.prog) g (i * 4) e [x.a, x.b, x.c, x.d] 0 cur w hg (by simp; omega) h1
 unfold szB at hs
 simp only [Option.map_eq_some_iff] at hs
 obtain ⟨inf, hi', hn⟩ := hs
 have hsv := run_storeVar' (P := Tryz.prog) (a := ⟨g, i * 4, none⟩) (v := .agg #[x.a, x.b, x.c, x.d]) hi' (by rw [hn]; rfl) hrun
 rw [Nat.zero_add]
 refine ⟨_, hsv, ⟨rfl, rfl, rfl, by simp [World.setRow], fun k _ hk => by simp [World.setRow, Array.getElem?_modify, Ne.symm hk]⟩, ?_⟩
 rw [← c4_set l i (by omega) x]
 refine ⟨by simp [length_c4]; omega, .inr ⟨g, cap, (cur.toList.take (i * 4) ++ [x.a, x.b, x.c, x.d] ++ cur.toList.drop (i * 4 + 4)).toArray, rfl, hB, by simp [World.setRow, Array.getElem?_modify, hg], hc, hm, ?_, ?_⟩⟩
 ·simp; omega
 rw [splice4 hfit x.a x.b x.c x.d]
 simp only [List.take_set, htake]
theorem blks_lt {w : World} {ao : Option Addr} {n : Nat} {l : List Bk} (h : Blks w ao n l) (h0 : 0 < l.length) : ∀ a, ao = some a → a.block < w.heap.size := by
 intro a ha
 obtain ⟨b, off, e, hc, _⟩ := h.at_ 0 h0
 rw [e] at ha
 cases ha
 exact World.block_lt_of_cell? w _ hc
theorem nums_lt {w : World} {ao : Option Addr} {n : Nat} {l : List Int} (h : Nums w ao n l) (h0 : 0 < l.length) : ∀ a, ao = some a → a.block < w.heap.size := by
 intro a ha
 obtain ⟨b, off, e, hc⟩ := h.at_ 0 h0
 rw [e] at ha
 cases ha
 exact World.block_lt_of_cell? w _ hc
theorem blks_but {w w' : World} {b : Nat} {ao : Option Addr} {n : Nat} {l : List Bk} (h : Blks w ao n l) (hb : But b w w') (hne : 0 < l.length → ∀ a, ao = some a → a.block ≠ b) : Blks w' ao n l := by
 by_cases h0 : 0 < l.length
 ·exact hb.blks h (hne h0)
 exact ⟨h.len, h.reach, fun i hi => absurd hi (by omega)⟩
theorem nums_but {w w' : World} {b : Nat} {ao : Option Addr} {n : Nat} {l : List Int} (h : Nums w ao n l) (hb : But b w w') (hne : 0 < l.length → ∀ a, ao = some a → a.block ≠ b) : Nums w' ao n l := by
 by_cases h0 : 0 < l.length
 ·exact hb.nums h (hne h0)
 exact ⟨h.len, h.reach, fun i hi => absurd hi (by omega)⟩
structure Away (b : Nat) (y : Hx) : Prop where
 f : ∀ z ∈ y.zs, 0 < z.z.free.length → ∀ a, z.fo = some a → a.block ≠ b
 t : ∀ z ∈ y.zs, 0 < z.z.types.length → ∀ a, z.to_ = some a → a.block ≠ b
 m : 0 < y.mins.length → ∀ a, y.mo = some a → a.block ≠ b
 l : 0 < y.ls.length → ∀ a, y.lo = some a → a.block ≠ b
 p : ∀ l ∈ y.ls, 0 < l.l.pages.length → ∀ a, l.po = some a → a.block ≠ b
 v : 0 < y.live.length → ∀ a, y.vo = some a → a.block ≠ b
theorem away_old {w : World} {b : Nat} {y : Hx} (h : y.At w) (hb : w.heap.size ≤ b) : Away b y := by
 refine ⟨fun z hz h0 a ha => ?_, fun z hz h0 a ha => ?_, fun h0 a ha => ?_, fun h0 a ha => ?_, fun l hl h0 a ha => ?_, fun h0 a ha => ?_⟩
 ·have := blks_lt (h.zones.at_ z hz).free h0 a ha; omega
 ·have := nums_lt (h.zones.at_ z hz).types h0 a ha; omega
 ·have := nums_lt h.mins h0 a ha; omega
 ·obtain ⟨c, off, e, hc, _⟩ := h.lists.cells 0 (by simpa using h0)
  rw [e] at ha
  cases ha
  have := World.block_lt_of_cell? w _ hc
  dsimp only at this ⊢
  omega
 ·have := nums_lt (h.lists.at_ l hl) h0 a ha; omega
 have := blks_lt h.live h0 a ha; omega
structure HZ (w : World) (B gz : Nat) (y : Hx) : Prop where
 oz : w.ownsRow B 54 4 (.slice y.zo y.zn y.zc) y.zn (c4 (y.zs.map Zc.q))
 ez : y.zo = some ⟨gz, 0, none⟩
 at_ : y.At w
 aw : Away gz y
 gB : B ≤ gz
theorem HZ.lt {w : World} {B gz : Nat} {y : Hx} (h : HZ w B gz y) (hn : 0 < y.zn) : gz < w.heap.size := by
 have := h.oz
 rw [h.ez] at this
 obtain ⟨g, e, _, hl⟩ := owns_head this hn
 cases e
 exact hl
theorem HZ.below {w w' : World} {B gz : Nat} {y : Hx} (h : HZ w B gz y) (hb : Below w.heap.size w w') : HZ w' B gz y :=
 ⟨owns_below h.oz hb (Nat.le_refl _), h.ez, h.at_.below hb, h.aw, h.gB⟩
def Kit.Hx.setZ (y : Hx) (i : Nat) (z : Zc) : Hx := { y with zs := y.zs.set i z }
theorem Away.setZ {b i : Nat} {y : Hx} {z : Zc} (h : Away b y) (h1 : ∀ a, z.fo = some a → a.block ≠ b) (h2 : ∀ a, z.to_ = some a → a.block ≠ b) : Away b (y.setZ i z) := by
 have hmem : ∀ c ∈ y.zs.set i z, c ∈ y.zs ∨ c = z := fun c hc => List.mem_or_eq_of_mem_set hc
 refine ⟨fun c hc h0 => ?_, fun c hc h0 => ?_, h.m, h.l, h.p, h.v⟩
 ·rcases hmem c hc with hc | rfl
  ·exact h.f c hc h0
  exact h1
 rcases hmem c hc with hc | rfl
 ·exact h.t c hc h0
 exact h2
theorem HZ.set {w w' : World} {B gz : Nat} {y : Hx} (h : HZ w B gz y) {i : Nat} {z : Zc} (hz : z.At w) (h1 : ∀ a, z.fo = some a → a.block ≠ gz) (h2 : ∀ a, z.to_ = some a → a.block ≠ gz)
    (hb : But gz w w') (ho : w'.ownsRow B 54 4 (.slice y.zo y.zn y.zc) y.zn (c4 ((y.zs.map Zc.q).set i z.q))) : HZ w' B gz (y.setZ i z) := by
 have hm : (y.zs.set i z).map Zc.q = (y.zs.map Zc.q).set i z.q := by rw [List.map_set]
 have hmem : ∀ c ∈ y.zs.set i z, c ∈ y.zs ∨ c = z := fun c hc => List.mem_or_eq_of_mem_set hc
 refine ⟨by show w'.ownsRow B 54 4 _ _ (c4 ((y.zs.set i z).map Zc.q)); rw [hm]; exact ho, h.ez, ⟨⟨?_, h.at_.zones.reach, ?_, ?_⟩, nums_but h.at_.mins hb h.aw.m, ⟨h.at_.lists.len, h.at_.lists.reach, ?_, fun l hl => nums_but (h.at_.lists.at_ l hl) hb (h.aw.p l hl)⟩, blks_but h.at_.live hb h.aw.v⟩, h.aw.setZ h1 h2, h.gB⟩
 ·show (y.zs.set i z).length = _; rw [List.length_set]; exact h.at_.zones.len
 ·show C4At w' y.zo ((y.zs.set i z).map Zc.q); rw [hm]; exact c4_of_owns ho
 ·intro c hc
  rcases hmem c hc with hc | rfl
  ·exact ⟨blks_but (h.at_.zones.at_ c hc).free hb (h.aw.f c hc), nums_but (h.at_.zones.at_ c hc).types hb (h.aw.t c hc)⟩
  exact hb.zn hz h1 h2
 show C4At w' y.lo (y.ls.map Lc.q)
 by_cases h0 : 0 < y.ls.length
 ·exact h.at_.lists.cells.but hb (h.aw.l h0)
 intro i hi; rw [List.length_map] at hi; omega
def backH (H : Hp) (p o : Int) : Hp := { H with zones := H.zones.set (zIdx H p) (backZ (H.zones.getD (zIdx H p) ⟨0, 0, [], []⟩) p o) }
structure CanBack (H : Hp) (p o : Int) : Prop where
 n : H.zones.length = 2
 m : ZMay (H.zones.getD (zIdx H p) ⟨0, 0, [], []⟩)
 i : blkIn (H.zones.getD (zIdx H p) ⟨0, 0, [], []⟩).f (H.zones.getD (zIdx H p) ⟨0, 0, [], []⟩).t p o
 v : ¬ ovlP (H.zones.getD (zIdx H p) ⟨0, 0, [], []⟩).free p o
theorem hp_zone (y : Hx) (i : Nat) : y.hp.zones.getD i ⟨0, 0, [], []⟩ = (y.zs.getD i .zero).z := zoneOf_hp y i
theorem setZ_hp {y : Hx} {p o : Int} {z : Zc} (h : z.z = backZ (y.zs.getD (zIdx y.hp p) .zero).z p o) : (y.setZ (zIdx y.hp p) z).hp = backH y.hp p o := by
 unfold backH Kit.Hx.setZ
 rw [hp_zone, ← h]
 show Hp.mk ((y.zs.set _ z).map (·.z)) _ _ _ _ = _
 rw [List.map_set]
 rfl
theorem but_start (g : Nat) {w w' : World} (h : ({ w with drawn := w.drawn + 1 } : World) = w') : But g w w' := by
 subst h
 exact But.of_below ((Below.refl w.heap.size w).drew)
theorem at_but {w w' : World} {b : Nat} {y : Hx} (h : y.At w) (hb : But b w w') (hbz : 0 < y.zs.length → ∀ a, y.zo = some a → a.block ≠ b) (ha : Away b y) : y.At w' := by
 refine ⟨⟨h.zones.len, h.zones.reach, ?_, fun z hz => ⟨blks_but (h.zones.at_ z hz).free hb (ha.f z hz), nums_but (h.zones.at_ z hz).types hb (ha.t z hz)⟩⟩, nums_but h.mins hb ha.m, ⟨h.lists.len, h.lists.reach, ?_, fun l hl => nums_but (h.lists.at_ l hl) hb (ha.p l hl)⟩, blks_but h.live hb ha.v⟩
 ·by_cases h0 : 0 < y.zs.length
  ·exact h.zones.cells.but hb (hbz h0)
  intro i hi; rw [List.length_map] at hi; omega
 by_cases h0 : 0 < y.ls.length
 ·exact h.lists.cells.but hb (ha.l h0)
 intro i hi; rw [List.length_map] at hi; omega
theorem HZ.but {w w' : World} {B gz b : Nat} {y : Hx} (h : HZ w B gz y) (hb : But b w w') (hne : b ≠ gz) (ha : Away b y) : HZ w' B gz y := by
 refine ⟨?_, h.ez, at_but h.at_ hb (fun _ a e => by rw [h.ez] at e; cases e; exact Ne.symm hne) ha, h.aw, h.gB⟩
 have ho := h.oz
 rw [h.ez] at ho ⊢
 exact own_but ho hb (Ne.symm hne)
end Go.Proofs.YtjohdbiipeedkaaGreatDoor
