/-
  OWN TEXTS.
-/
import Derived.Test.YtnijjpakpphhhaaPart3
set_option maxRecDepth 10000
set_option maxHeartbeats 4000000
namespace Go.Proofs.Ytnijjpakpphhhaa.Kit
open Go Go.RowKit
theorem row_new {w : World} {e : TypeId} {size cap : Nat} {A : Array Value} (hs : A.size = cap * size) (hm : cap ≤ maxLen) : Row (w.drew.alloc (.cells A e)) e size w.heap.size cap A.toList := by
 refine ⟨?_, by simpa using hs, hm⟩
 have := heap_alloc_new w.drew (.cells A e)
 simpa using this
theorem below_new (w : World) (o : Obj) : Below w.heap.size w (w.drew.alloc o) := ((Below.refl _ _).drew).alloc (Nat.le_refl _) o
theorem grow_some {P : Program} (w : World) (t ty e : TypeId) (i : TypeInfo) (z : Value) (size : Nat) (ht : P.underlying t = some (.slice e)) (hi : P.info? e = some i) (hz : i.zero = some z) (hsz : i.size = size) (hzs : z.cells.size = size)
    (b : Addr) (sLen sCap : Nat) (olds : List Value) (hlo : olds.length = sLen * size) (holds : ∀ j v, olds[j]? = some v → w.cell? (b.add j) = some v)
    (a : Addr) (n c : Nat) (news : List Value) (hl : news.length = n * size) (hnews : ∀ j v, news[j]? = some v → w.cell? (a.add j) = some v)
    (hg : sCap < sLen + n) (hm : sLen + n ≤ maxLen) (hby : (sLen + n) * i.bytes ≤ 140737488355328) :
    ∃ cap' W cur, (Builtin.append_ #[t, t] ty #[.slice (some b) sLen sCap, .slice (some a) n c]).run P w = .ok (.slice (some ⟨w.heap.size, 0, none⟩) (sLen + n) cap') W ∧
     Row W e size w.heap.size cap' cur ∧ cur.take ((sLen + n) * size) = olds ++ news ∧ sLen + n ≤ cap' ∧ Below w.heap.size w W := by
 subst hsz
 have h63 : ((sLen + n : Nat) : Int) ≤ 9223372036854775807 := by simp only [maxLen] at hm; omega
 have hr := run_append_grow (P := P) w t ty e i z ht hi hz b sLen sCap olds hlo holds a n c news hl hnews hg h63 (growslice_fits hg hby)
 have hc1 := grownCap_ge w (sLen + n) sCap e
 have hc2 := grownCap_le_maxLen w (sLen + n) sCap e hm
 refine ⟨_, _, _, hr, row_new ?_ hc2, ?_, hc1, below_new _ _⟩
 ·simp only [Array.size_append, List.size_toArray, size_zeroCells, hlo, hl, hzs]
  rw [← Nat.add_mul, ← Nat.add_mul]
  congr 1
  omega
 ·simp only [Array.toList_append]
  rw [List.take_append_of_le_length (by simp [hlo, hl, Nat.add_mul]), List.take_of_length_le (by simp [hlo, hl, Nat.add_mul])]
theorem grow_zeros {P : Program} (w : World) (t tn ty e : TypeId) (i : TypeInfo) (z : Value) (size : Nat) (kq kn : IntKind) (ht : P.underlying t = some (.slice e)) (htn : P.underlying tn = some (.int kn)) (hi : P.info? e = some i) (hz : i.zero = some z) (hsz : i.size = size) (hs0 : 0 < size) (hzs : z.cells.size = size)
    (b : Addr) (sLen sCap : Nat) (olds : List Value) (hlo : olds.length = sLen * size) (holds : ∀ j v, olds[j]? = some v → w.cell? (b.add j) = some v)
    (k : Nat) (h0 : 0 < k) (hg : sCap < sLen + k) (hm : sLen + k ≤ maxLen) (hby : (sLen + k) * i.bytes ≤ 140737488355328) :
    ∃ cap' W cur, (Builtin.append_ #[t, tn] ty #[.slice (some b) sLen sCap, .int kq k]).run P w = .ok (.slice (some ⟨w.heap.size, 0, none⟩) (sLen + k) cap') W ∧
     Row W e size w.heap.size cap' cur ∧ cur.take (sLen * size) = olds ∧ sLen + k ≤ cap' ∧ Below w.heap.size w W := by
 subst hsz
 have h63 : ((sLen + k : Nat) : Int) ≤ 9223372036854775807 := by simp only [maxLen] at hm; omega
 have hold : (Builtin.firstCells i.size sLen (.slice (some b) sLen sCap)).run P w.drew = .ok olds.toArray w.drew :=
  run_firstCells_some w.drew i.size sLen b sLen sCap olds hlo (fun j v hj => by simpa using holds j v hj)
 have h48 : k * i.bytes ≤ 281474976710656 := by have := Nat.mul_le_mul_right i.bytes (show k ≤ sLen + k by omega); omega
 have hr := Go.Lib.run_append_grow_zeros (P := P) w t tn ty e i z kq kn ht htn hi hz (some b) sLen sCap olds hold k h0 hs0 hg h63 h48 (growslice_fits hg hby)
 have hc1 := grownCap_ge w (sLen + k) sCap e
 have hc2 := grownCap_le_maxLen w (sLen + k) sCap e hm
 refine ⟨_, _, _, hr, row_new ?_ hc2, ?_, hc1, below_new _ _⟩
 ·simp only [Array.size_append, List.size_toArray, size_zeroCells, hlo, hzs]
  rw [← Nat.add_mul, ← Nat.add_mul]
  congr 1
  omega
 ·simp only [Array.toList_append, List.append_assoc]
  rw [List.take_append_of_le_length (by simp [hlo]), List.take_of_length_le (by simp [hlo])]
theorem splice_two_a {α : Type} {L X Y : List α} {p : Nat} (h : p + X.length + Y.length ≤ L.length) : (splice (splice L p X) (p + X.length) Y).take (p + X.length + Y.length) = L.take p ++ (X ++ Y) := by
 have e : (splice L p X).take (p + X.length) = L.take p ++ X := by
  unfold splice
  rw [← List.append_assoc, List.take_append_of_le_length (by simp; omega), List.take_of_length_le (by simp; omega)]
 show (List.take (p + X.length) (splice L p X) ++ (Y ++ _)).take _ = _
 rw [e, ← List.append_assoc, List.take_append_of_le_length (by simp; omega), List.take_of_length_le (by simp; omega), List.append_assoc]
theorem splice_two_b {α : Type} {L X Y : List α} {p : Nat} (h : p + X.length + Y.length ≤ L.length) : (splice (splice L (p + X.length) Y) p X).take (p + X.length + Y.length) = L.take p ++ (X ++ Y) := by
 have e1 : (splice L (p + X.length) Y).take p = L.take p := splice_take (by omega) (by omega)
 have e2 : (splice L (p + X.length) Y).drop (p + X.length) = Y ++ L.drop (p + X.length + Y.length) := by
  unfold splice
  rw [List.drop_append_of_le_length (by simp; omega), List.drop_of_length_le (by simp; omega), List.nil_append]
 show (List.take p (splice L (p + X.length) Y) ++ (X ++ List.drop (p + X.length) (splice L (p + X.length) Y))).take _ = _
 rw [e1, e2, ← List.append_assoc, ← List.append_assoc, List.take_append_of_le_length (by simp; omega), List.take_of_length_le (by simp; omega), List.append_assoc]
theorem append_row {P : Program} (w : World) (base : Nat) (t ty e : TypeId) (i : TypeInfo) (z : Value) (size : Nat) (ht : P.underlying t = some (.slice e)) (hi : P.info? e = some i) (hz : i.zero = some z) (hsz : i.size = size) (hzs : z.cells.size = size)
    (ao : Option Addr) (n cap : Nat) (xs : List Value) (hown : w.ownsRow base e size (.slice ao n cap) n xs) (a : Addr) (m c : Nat) (news : List Value) (hl : news.length = m * size) (hnews : ∀ j v, news[j]? = some v → w.cell? (a.add j) = some v) (h1 : ∀ u ∈ news, u.oneCell' = true)
    (h0 : 0 < m) (hm : n + m ≤ maxLen) (hby : (n + m) * i.bytes ≤ 140737488355328) (hb : base ≤ w.heap.size) :
    ∃ g' cap' W, (Builtin.append_ #[t, t] ty #[.slice ao n cap, .slice (some a) m c]).run P w = .ok (.slice (some ⟨g', 0, none⟩) (n + m) cap') W ∧ W.ownsRow base e size (.slice (some ⟨g', 0, none⟩) (n + m) cap') (n + m) (xs ++ news) ∧
     ((ao = some ⟨g', 0, none⟩ ∧ But g' w W) ∨ (g' = w.heap.size ∧ Below w.heap.size w W)) := by
 have hown' := hown
 rcases hown.2 with ⟨e1, e2⟩ | ⟨g, cap', cur, e1, hbg, hg, hn, hmx, hsc, htk⟩
 ·simp only [Value.slice.injEq] at e1
  obtain ⟨rfl, rfl, rfl⟩ := e1
  have hx : xs = [] := List.eq_nil_of_length_eq_zero (by have := hown.1; simpa using this)
  subst hx
  subst hsz
  have hby' : m * i.bytes ≤ 281474976710656 := by simp only [Nat.zero_add] at hby; omega
  have h63 : (m : Int) ≤ 9223372036854775807 := by simp only [maxLen] at hm; omega
  have hr := run_append_nil (P := P) (w := w) t ty e i z ht hi hz a m c news hl hnews h0 h63 hby'
  have hc1 := grownCap_ge w m 0 e
  have hc2 := grownCap_le_maxLen w m 0 e (by omega)
  have R : Row (w.drew.alloc (.cells (news.toArray ++ Builtin.zeroCells z.cells (grownCap w m 0 e - m)) e)) e i.size w.heap.size (grownCap w m 0 e) (news.toArray ++ Builtin.zeroCells z.cells (grownCap w m 0 e - m)).toList := row_new (by
   simp only [Array.size_append, List.size_toArray, size_zeroCells, hl, hzs]
   rw [← Nat.add_mul]
   congr 1
   omega) hc2
  refine ⟨w.heap.size, grownCap w m 0 e, _, by rw [Nat.zero_add]; exact hr, ?_, .inr ⟨rfl, below_new _ _⟩⟩
  rw [Nat.zero_add, List.nil_append]
  refine R.owns hb hc1 ?_
  simp only [Array.toList_append]
  rw [List.take_append_of_le_length (by simp [hl]), List.take_of_length_le (by simp [hl])]
 ·simp only [Value.slice.injEq] at e1
  obtain ⟨rfl, _, rfl⟩ := e1
  by_cases hr : n + m ≤ cap
  ·obtain ⟨w', hrun, r1, r2⟩ := run_append_fits (P := P) w base t ty e i size ht hi hsz g n cap xs hown' a m c news hl hnews h1 hr
   exact ⟨g, cap, w', hrun, r1, .inl ⟨rfl, r2.os, r2.tape, r2.output, r2.size, fun k hk hne => r2.block k hk (by intro q; exact hne (by simpa using q))⟩⟩
  ·obtain ⟨cap', W, cur', hrun, R', ht', hc', hb'⟩ := grow_some (P := P) w t ty e i z size ht hi hz hsz hzs ⟨g, 0, none⟩ n cap xs hown'.1 (hown'.cells rfl) a m c news hl hnews (by omega) hm hby
   exact ⟨w.heap.size, cap', W, hrun, R'.owns hb hc' ht', .inr ⟨rfl, hb'⟩⟩
end Go.Proofs.Ytnijjpakpphhhaa.Kit
namespace Go.Proofs.Ytnijjpakpphhhaa
open Go Go.RowKit Go.Proofs.Ytnijjpakpphhhaa.Kit
def Off3 (p q r : Nat) (ao : Option Addr) : Prop := ∀ a, ao = some a → a.block ≠ p ∧ a.block ≠ q ∧ a.block ≠ r
structure HOwn (w : World) (B gz gl gv : Nat) (y : Hx) : Prop where
 oz : w.ownsRow B 70 4 (.slice y.zo y.zn y.zc) y.zn (c4 (y.zs.map Zc.q))
 ol : w.ownsRow B 77 4 (.slice y.lo y.ln y.lc) y.ln (c4 (y.ls.map Lc.q))
 ov : w.ownsRow B 72 3 (.slice y.vo y.vn y.vc) y.vn (bvals y.live)
 ez : y.zo = some ⟨gz, 0, none⟩
 el : ∀ a, y.lo = some a → a.block = gl
 ev : ∀ a, y.vo = some a → a.block = gv
 at_ : y.At w
 zl : gz ≠ gl
 zv : gz ≠ gv
 lv : gl ≠ gv
 zoff : ∀ z ∈ y.zs, Off3 gz gl gv z.fo ∧ Off3 gz gl gv z.to_ ∧ Fresh B z.fo ∧ Fresh B z.to_
 loff : ∀ l ∈ y.ls, Off3 gz gl gv l.po ∧ Fresh B l.po ∧ l.pc = l.pn
 moff : Off3 gz gl gv y.mo
 mfresh : Fresh B y.mo
 gzB : B ≤ gz
 glB : B ≤ gl
 gvB : B ≤ gv
structure Five (s t X gz gm gl gv : Nat) : Prop where
 x1 : s ≤ X
 z1 : s ≤ gz
 m1 : s ≤ gm
 l1 : s ≤ gl
 v1 : s ≤ gv
 x2 : X < t
 z2 : gz < t
 m2 : gm < t
 l2 : gl < t
 v2 : gv < t
 xz : X ≠ gz
 xm : X ≠ gm
 xl : X ≠ gl
 xv : X ≠ gv
 zm : gz ≠ gm
 zl : gz ≠ gl
 zv : gz ≠ gv
 ml : gm ≠ gl
 mv : gm ≠ gv
 lv : gl ≠ gv
structure HcI (W0 : World) (hb : Nat) (h : Hx) (X gz gm gl gv : Nat) (CZ CM CL CV : List Value) (W : World) : Prop where
 b : Below W0.heap.size W0 W
 hin : HBox W hb (.slice h.zo h.zn h.zc) (.slice h.mo h.mn h.mc) (.int .i64 h.cpus) (.slice h.lo h.ln h.lc) (.slice h.vo h.vn h.vc)
 res : HBox W (hb + 1) (.slice none 0 0) (.slice none 0 0) (.int .i64 0) (.slice none 0 0) (.slice none 0 0)
 box : HBox W X (.slice (some ⟨gz, 0, none⟩) h.zn h.zn) (.slice (some ⟨gm, 0, none⟩) h.mn h.mn) (.int .i64 h.cpus) (.slice (some ⟨gl, 0, none⟩) h.ln h.ln) (.slice (some ⟨gv, 0, none⟩) h.vn h.vn)
 rz : W.heap[gz]? = some (.cells CZ.toArray 70 (0, 0))
 rm : W.heap[gm]? = some (.cells CM.toArray 3 (0, 0))
 rl : W.heap[gl]? = some (.cells CL.toArray 77 (0, 0))
 rv : W.heap[gv]? = some (.cells CV.toArray 72 (0, 0))
theorem lt_of_row {W : World} {g : Nat} {o : Obj} (h : W.heap[g]? = some o) : g < W.heap.size := (Array.getElem?_eq_some_iff.1 h).1
section
variable {W0 : World} {hb : Nat} {h : Hx} {X gz gm gl gv : Nat} {CZ CM CL CV : List Value} {W W' : World} {s t : Nat}
theorem HcI.below (I : HcI W0 hb h X gz gm gl gv CZ CM CL CV W) (hB : Below W.heap.size W W') : HcI W0 hb h X gz gm gl gv CZ CM CL CV W' :=
 ⟨I.b.trans (hB.mono I.b.size), I.hin.below hB, I.res.below hB, I.box.below hB, (hB.block _ (lt_of_row I.rz)).trans I.rz, (hB.block _ (lt_of_row I.rm)).trans I.rm, (hB.block _ (lt_of_row I.rl)).trans I.rl, (hB.block _ (lt_of_row I.rv)).trans I.rv⟩
theorem HcI.setZ (I : HcI W0 hb h X gz gm gl gv CZ CM CL CV W) (F : Five s t X gz gm gl gv) (hs : W0.heap.size = hb + 2) (hs' : s = W0.heap.size) (hB : But gz W W') {C : List Value} (hr : W'.heap[gz]? = some (.cells C.toArray 70 (0, 0))) : HcI W0 hb h X gz gm gl gv C CM CL CV W' :=
 ⟨I.b.trans (hB.below (by have := F.z1; omega) I.b.size), I.hin.but hB (by have := F.z1; omega), I.res.but hB (by have := F.z1; omega), I.box.but hB F.xz, hr, (hB.block _ (lt_of_row I.rm) (fun e => F.zm e.symm)).trans I.rm, (hB.block _ (lt_of_row I.rl) (fun e => F.zl e.symm)).trans I.rl, (hB.block _ (lt_of_row I.rv) (fun e => F.zv e.symm)).trans I.rv⟩
theorem HcI.setM (I : HcI W0 hb h X gz gm gl gv CZ CM CL CV W) (F : Five s t X gz gm gl gv) (hs : W0.heap.size = hb + 2) (hs' : s = W0.heap.size) (hB : But gm W W') {C : List Value} (hr : W'.heap[gm]? = some (.cells C.toArray 3 (0, 0))) : HcI W0 hb h X gz gm gl gv CZ C CL CV W' :=
 ⟨I.b.trans (hB.below (by have := F.m1; omega) I.b.size), I.hin.but hB (by have := F.m1; omega), I.res.but hB (by have := F.m1; omega), I.box.but hB F.xm, (hB.block _ (lt_of_row I.rz) F.zm).trans I.rz, hr, (hB.block _ (lt_of_row I.rl) (fun e => F.ml e.symm)).trans I.rl, (hB.block _ (lt_of_row I.rv) (fun e => F.mv e.symm)).trans I.rv⟩
theorem HcI.setL (I : HcI W0 hb h X gz gm gl gv CZ CM CL CV W) (F : Five s t X gz gm gl gv) (hs : W0.heap.size = hb + 2) (hs' : s = W0.heap.size) (hB : But gl W W') {C : List Value} (hr : W'.heap[gl]? = some (.cells C.toArray 77 (0, 0))) : HcI W0 hb h X gz gm gl gv CZ CM C CV W' :=
 ⟨I.b.trans (hB.below (by have := F.l1; omega) I.b.size), I.hin.but hB (by have := F.l1; omega), I.res.but hB (by have := F.l1; omega), I.box.but hB F.xl, (hB.block _ (lt_of_row I.rz) F.zl).trans I.rz, (hB.block _ (lt_of_row I.rm) F.ml).trans I.rm, hr, (hB.block _ (lt_of_row I.rv) (fun e => F.lv e.symm)).trans I.rv⟩
theorem HcI.setV (I : HcI W0 hb h X gz gm gl gv CZ CM CL CV W) (F : Five s t X gz gm gl gv) (hs : W0.heap.size = hb + 2) (hs' : s = W0.heap.size) (hB : But gv W W') {C : List Value} (hr : W'.heap[gv]? = some (.cells C.toArray 72 (0, 0))) : HcI W0 hb h X gz gm gl gv CZ CM CL C W' :=
 ⟨I.b.trans (hB.below (by have := F.v1; omega) I.b.size), I.hin.but hB (by have := F.v1; omega), I.res.but hB (by have := F.v1; omega), I.box.but hB F.xv, (hB.block _ (lt_of_row I.rz) F.zv).trans I.rz, (hB.block _ (lt_of_row I.rm) F.mv).trans I.rm, (hB.block _ (lt_of_row I.rl) F.lv).trans I.rl, hr⟩
end
theorem HcI.newer {W0 : World} {hb : Nat} {h : Hx} {X gz gm gl gv : Nat} {CZ CM CL CV : List Value} {W W' : World} {s t c : Nat} (I : HcI W0 hb h X gz gm gl gv CZ CM CL CV W) (F : Five s t X gz gm gl gv) (hs : W0.heap.size = hb + 2) (hs' : s = W0.heap.size) (hB : But c W W') (hc : t ≤ c) : HcI W0 hb h X gz gm gl gv CZ CM CL CV W' :=
 ⟨I.b.trans (hB.below (by have := F.z1; have := F.z2; omega) I.b.size), I.hin.but hB (by have := F.z1; have := F.z2; omega), I.res.but hB (by have := F.z1; have := F.z2; omega), I.box.but hB (by have := F.x2; omega), (hB.block _ (lt_of_row I.rz) (by have := F.z2; omega)).trans I.rz, (hB.block _ (lt_of_row I.rm) (by have := F.m2; omega)).trans I.rm, (hB.block _ (lt_of_row I.rl) (by have := F.l2; omega)).trans I.rl, (hB.block _ (lt_of_row I.rv) (by have := F.v2; omega)).trans I.rv⟩
theorem But.then_new {b c : Nat} {w w' w'' : World} (h : But b w w') (k : But c w' w'') (hc : w.heap.size ≤ c) : But b w w'' :=
 ⟨k.os.trans h.os, k.tape.trans h.tape, k.output.trans h.output, Nat.le_trans h.size k.size, fun i hi hb => (k.block i (Nat.lt_of_lt_of_le hi h.size) (by omega)).trans (h.block i hi hb)⟩
theorem row_set4 {W : World} {g : Nat} {t : TypeId} {L : List Value} (h : W.heap[g]? = some (.cells L.toArray t (0, 0))) (i : Nat) (a b c d : Value) :
    ((((W.setCell ⟨g, i, none⟩ a).setCell ⟨g, i + 1, none⟩ b).setCell ⟨g, i + 2, none⟩ c).setCell ⟨g, i + 3, none⟩ d).heap[g]? = some (.cells ((((L.set i a).set (i + 1) b).set (i + 2) c).set (i + 3) d).toArray t (0, 0)) := by
 have h1 : (W.setCell ⟨g, i, none⟩ a).heap[g]? = some (.cells (L.toArray.setIfInBounds i a) t (0, 0)) := heap_setCell_same _ _ _ _ _ _ h
 have h2 : ((W.setCell ⟨g, i, none⟩ a).setCell ⟨g, i + 1, none⟩ b).heap[g]? = some (.cells ((L.toArray.setIfInBounds i a).setIfInBounds (i + 1) b) t (0, 0)) := heap_setCell_same _ _ _ _ _ _ h1
 have h3 : (((W.setCell ⟨g, i, none⟩ a).setCell ⟨g, i + 1, none⟩ b).setCell ⟨g, i + 2, none⟩ c).heap[g]? = some (.cells (((L.toArray.setIfInBounds i a).setIfInBounds (i + 1) b).setIfInBounds (i + 2) c) t (0, 0)) := heap_setCell_same _ _ _ _ _ _ h2
 have h4 : ((((W.setCell ⟨g, i, none⟩ a).setCell ⟨g, i + 1, none⟩ b).setCell ⟨g, i + 2, none⟩ c).setCell ⟨g, i + 3, none⟩ d).heap[g]? = some (.cells ((((L.toArray.setIfInBounds i a).setIfInBounds (i + 1) b).setIfInBounds (i + 2) c).setIfInBounds (i + 3) d) t (0, 0)) := heap_setCell_same _ _ _ _ _ _ h3
 simpa using h4
theorem row_set1 {W : World} {g : Nat} {t : TypeId} {L : List Value} (h : W.heap[g]? = some (.cells L.toArray t (0, 0))) (i : Nat) (a : Value) : (W.setCell ⟨g, i, none⟩ a).heap[g]? = some (.cells (L.set i a).toArray t (0, 0)) := by
 have h1 : (W.setCell ⟨g, i, none⟩ a).heap[g]? = some (.cells (L.toArray.setIfInBounds i a) t (0, 0)) := heap_setCell_same _ _ _ _ _ _ h
 simpa using h1
theorem but_set4 (W : World) (g i : Nat) (a b c d : Value) : But g W ((((W.setCell ⟨g, i, none⟩ a).setCell ⟨g, i + 1, none⟩ b).setCell ⟨g, i + 2, none⟩ c).setCell ⟨g, i + 3, none⟩ d) :=
 ((((But.refl g W).setCell a).setCell b).setCell c).setCell d
theorem take_set4 {L A : List Value} {k n : Nat} (hl : L.length = n * 4) (hk : k < n) (ht : L.take (k * 4) = A) (a b c d : Value) :
    ((((L.set (k * 4) a).set (k * 4 + 1) b).set (k * 4 + 2) c).set (k * 4 + 3) d).take ((k + 1) * 4) = A ++ [a, b, c, d] := by
 subst ht
 apply List.ext_getElem?
 intro i
 rw [List.getElem?_take]
 by_cases h : i < (k + 1) * 4
 ·rw [if_pos h]
  by_cases h0 : i < k * 4
  ·rw [List.getElem?_append_left (by simp; omega), List.getElem?_take, if_pos h0]
   rw [List.getElem?_set_ne (by omega), List.getElem?_set_ne (by omega), List.getElem?_set_ne (by omega), List.getElem?_set_ne (by omega)]
  ·rw [List.getElem?_append_right (by simp; omega)]
   have hlen : (L.take (k * 4)).length = k * 4 := by simp; omega
   rw [hlen]
   rcases (show i = k * 4 ∨ i = k * 4 + 1 ∨ i = k * 4 + 2 ∨ i = k * 4 + 3 by omega) with rfl | rfl | rfl | rfl
   ·rw [List.getElem?_set_ne (by omega), List.getElem?_set_ne (by omega), List.getElem?_set_ne (by omega), List.getElem?_set_self (by omega)]
    simp
   ·rw [List.getElem?_set_ne (by omega), List.getElem?_set_ne (by omega), List.getElem?_set_self (by simp; omega)]
    simp [show k * 4 + 1 - k * 4 = 1 by omega]
   ·rw [List.getElem?_set_ne (by omega), List.getElem?_set_self (by simp; omega)]
    simp [show k * 4 + 2 - k * 4 = 2 by omega]
   ·rw [List.getElem?_set_self (by simp; omega)]
    simp [show k * 4 + 3 - k * 4 = 3 by omega]
 ·rw [if_neg h, List.getElem?_eq_none (by simp; omega)]
theorem row_res4 {W : World} {g : Nat} {t : TypeId} {L : List Value} {n k : Nat} (h : W.heap[g]? = some (.cells L.toArray t (0, 0))) (hl : L.length = n * 4) (hk : k < n) :
    (∃ v, W.cell? ⟨g, k * 4, none⟩ = some v) ∧ (∃ v, W.cell? ⟨g, k * 4 + 1, none⟩ = some v) ∧ (∃ v, W.cell? ⟨g, k * 4 + 2, none⟩ = some v) ∧ (∃ v, W.cell? ⟨g, k * 4 + 3, none⟩ = some v) ∧ ∀ j, W.frozen? ⟨g, j, none⟩ = false := by
 have hc : ∀ j, j < L.length → ∃ v, W.cell? ⟨g, j, none⟩ = some v := fun j hj => ⟨L[j], by rw [cell_of_row _ _ _ _ _ _ h]; simp [hj]⟩
 exact ⟨hc _ (by omega), hc _ (by omega), hc _ (by omega), hc _ (by omega), fun j => frozen_of_row _ _ _ _ _ h⟩
theorem c4_snoc (l : List Q4) (q : Q4) : c4 (l ++ [q]) = c4 l ++ [q.a, q.b, q.c, q.d] := by rw [c4_append]; rfl
structure ZDone (S n k : Nat) (zs done : List Zc) (CZ : List Value) (W : World) : Prop where
 same : done.map (·.z) = (zs.take k).map (·.z)
 at_ : ∀ y ∈ done, y.At W ∧ Fresh S y.fo ∧ Fresh S y.to_
 clen : CZ.length = n * 4
 take : CZ.take (k * 4) = c4 (done.map Zc.q)
theorem ZDone.below {S n k : Nat} {zs done : List Zc} {CZ : List Value} {W W' : World} (h : ZDone S n k zs done CZ W) (hb : Below W.heap.size W W') : ZDone S n k zs done CZ W' :=
 ⟨h.same, fun y hy => ⟨(h.at_ y hy).1.below hb, (h.at_ y hy).2⟩, h.clen, h.take⟩
theorem ZDone.but {S n k c : Nat} {zs done : List Zc} {CZ : List Value} {W W' : World} (h : ZDone S n k zs done CZ W) (hb : But c W W') (hc : c < S) : ZDone S n k zs done CZ W' :=
 ⟨h.same, fun y hy => ⟨hb.zn (h.at_ y hy).1 (fun a ha => by have := (h.at_ y hy).2.1 a ha; omega) (fun a ha => by have := (h.at_ y hy).2.2 a ha; omega), (h.at_ y hy).2⟩, h.clen, h.take⟩
theorem ZDone.first {S n : Nat} {zs : List Zc} {CZ : List Value} {W : World} (h : CZ.length = n * 4) : ZDone S n 0 zs [] CZ W := ⟨rfl, fun y hy => absurd hy (by simp), h, by simp [c4]⟩
theorem ZDone.next {S n k g : Nat} {zs done : List Zc} {CZ : List Value} {W W' : World} (h : ZDone S n k zs done CZ W) (hk : k < n) (hn : zs.length = n) {z : Zn} {fo : Option Addr} {fn fc : Nat} {to_ : Option Addr} {tn tc : Nat} (hz : (zs.getD k .zero).z = z) (hb : But g W W') (hg : g < S) (hat : ZnAt W fo fn to_ tn z) (f1 : Fresh S fo) (f2 : Fresh S to_) :
    ZDone S n (k + 1) zs (done ++ [⟨z, fo, fn, fc, to_, tn, tc⟩]) ((((CZ.set (k * 4) (.int .i64 z.f)).set (k * 4 + 1) (.int .i64 z.t)).set (k * 4 + 2) (.slice fo fn fc)).set (k * 4 + 3) (.slice to_ tn tc)) W' := by
 have h' := h.but hb hg
 refine ⟨?_, ?_, by simpa using h.clen, ?_⟩
 ·have e : zs[k]'(by omega) = zs.getD k .zero := by rw [List.getD_eq_getElem?_getD, List.getElem?_eq_getElem (by omega)]; rfl
  rw [List.map_append, h.same, List.take_succ_eq_append_getElem (by omega), List.map_append, e, List.map_cons, List.map_cons, List.map_nil, hz]
 ·intro y hy
  rcases List.mem_append.1 hy with hy | hy
  ·exact h'.at_ y hy
  ·rw [List.mem_singleton] at hy
   subst hy
   exact ⟨hb.zn hat (fun a ha => by have := f1 a ha; omega) (fun a ha => by have := f2 a ha; omega), f1, f2⟩
 ·rw [take_set4 h.clen hk h.take, List.map_append, List.map_cons, List.map_nil, c4_snoc]
  rfl
theorem ZDone.all {S n : Nat} {zs done : List Zc} {CZ : List Value} {W : World} (h : ZDone S n n zs done CZ W) (hn : zs.length = n) : done.map (·.z) = zs.map (·.z) ∧ CZ = c4 (done.map Zc.q) := by
 have h1 := h.same
 have h2 := h.take
 rw [List.take_of_length_le (by omega)] at h1
 rw [List.take_of_length_le (by have := h.clen; omega)] at h2
 exact ⟨h1, h2⟩
structure LDone (S n k : Nat) (ls done : List Lc) (CL : List Value) (W : World) : Prop where
 same : done.map (·.l) = (ls.take k).map (·.l)
 at_ : ∀ y ∈ done, y.At W ∧ Fresh S y.po ∧ y.pc = y.pn
 clen : CL.length = n * 4
 take : CL.take (k * 4) = c4 (done.map Lc.q)
theorem LDone.but {S n k c : Nat} {ls done : List Lc} {CL : List Value} {W W' : World} (h : LDone S n k ls done CL W) (hb : But c W W') (hc : c < S) : LDone S n k ls done CL W' :=
 ⟨h.same, fun y hy => ⟨hb.nums (h.at_ y hy).1 (fun a ha => by have := (h.at_ y hy).2.1 a ha; omega), (h.at_ y hy).2⟩, h.clen, h.take⟩
theorem LDone.first {S n : Nat} {ls : List Lc} {CL : List Value} {W : World} (h : CL.length = n * 4) : LDone S n 0 ls [] CL W := ⟨rfl, fun y hy => absurd hy (by simp), h, by simp [c4]⟩
theorem LDone.next {S n k g : Nat} {ls done : List Lc} {CL CL' : List Value} {W W' : World} (h : LDone S n k ls done CL W) (hk : k < n) (hn : ls.length = n) {l : Ls} {po : Option Addr} {pn : Nat} (hz : (ls.getD k .zero).l = l) (hb : But g W W') (hg : g < S) (hat : Nums W' po pn l.pages) (f1 : Fresh S po)
    (hC : CL' = (((CL.set (k * 4) (.int .i64 l.c)).set (k * 4 + 1) (.int .i64 l.z)).set (k * 4 + 2) (.int .i64 l.t)).set (k * 4 + 3) (.slice po pn pn)) : LDone S n (k + 1) ls (done ++ [⟨l, po, pn, pn⟩]) CL' W' := by
 subst hC
 have h' := h.but hb hg
 refine ⟨?_, ?_, by simpa using h.clen, ?_⟩
 ·have e : ls[k]'(by omega) = ls.getD k .zero := by rw [List.getD_eq_getElem?_getD, List.getElem?_eq_getElem (by omega)]; rfl
  rw [List.map_append, h.same, List.take_succ_eq_append_getElem (by omega), List.map_append, e, List.map_cons, List.map_cons, List.map_nil, hz]
 ·intro y hy
  rcases List.mem_append.1 hy with hy | hy
  ·exact h'.at_ y hy
  ·rw [List.mem_singleton] at hy
   subst hy
   exact ⟨hat, f1, rfl⟩
 ·rw [take_set4 h.clen hk h.take, List.map_append, List.map_cons, List.map_nil, c4_snoc]
  rfl
theorem LDone.all {S n : Nat} {ls done : List Lc} {CL : List Value} {W : World} (h : LDone S n n ls done CL W) (hn : ls.length = n) : done.map (·.l) = ls.map (·.l) ∧ CL = c4 (done.map Lc.q) := by
 have h1 := h.same
 have h2 := h.take
 rw [List.take_of_length_le (by omega)] at h1
 rw [List.take_of_length_le (by have := h.clen; omega)] at h2
 exact ⟨h1, h2⟩
theorem oper_copy_k {P : Program} {o : Oper} {a : Act} {w : World} {K : Act → World → Prop} {Q : Exit → Act → World → Prop} (hgd : o.guard = none) (d s : Operand) (dT sT : TypeId)
    (ho : o.op = .call { callee := .builtin .copy, args := #[d, s], argTypes := #[dT, sT] }) (elem : TypeId) (k : Nat) (hu : P.underlying dT = some (.slice elem)) (hsz : (P.info? elem).map (·.size) = some k)
    (dp sp : Option Addr) (dLen dCap sLen sCap : Nat) (hd : a.eval d = .slice dp dLen dCap) (hs : a.eval s = .slice sp sLen sCap)
    (g off : Nat) (cur : List Value) (t : TypeId) (hg : w.heap[g]? = some (.cells cur.toArray t (0, 0))) (cs : List Value) (m : Nat) (hm : Nat.min sLen dLen = m) (hn : cs.length = m * k)
    (hpos : 0 < m → dp = some ⟨g, off, none⟩ ∧ ∃ ad, sp = some ad ∧ ∀ j v, cs[j]? = some v → w.cell? (ad.add j) = some v)
    (hfit : off + cs.length ≤ cur.length) (h1 : ∀ v ∈ cs, v.oneCell' = true)
    (h : ∀ w', Hid (w'.heap[g]? = some (.cells (splice cur off cs).toArray t (0, 0))) → But g w w' → K (a.put o.dst (goInt m)) w') : Oper.wp P o a w K Q := by
 have h := step_copy_k (P := P) (ops := #[]) (E := True) (Q := Q) hgd d s dT sT ho elem k hu hsz dp sp dLen dCap sLen sCap hd hs g off cur t hg cs m hm hn hpos hfit h1 h
 simpa [Region.wanted, hgd] using h
def RetHeap (B : Nat) (w' : World) (H : Hp) (e : Ending) : Prop :=
 ∃ gz gl gv y, e = .returned (.agg #[.slice y.zo y.zn y.zc, .slice y.mo y.mn y.mc, .int .i64 y.cpus, .slice y.lo y.ln y.lc, .slice y.vo y.vn y.vc]) ∧ y.hp = H ∧ HOwn w' B gz gl gv y
theorem HcI.owns {W0 : World} {hb : Nat} {x : Hx} {X gz gm gl gv : Nat} {CZ CM CL CV : List Value} {W : World} {S : Nat} {zd : List Zc} {ld : List Lc} (I : HcI W0 hb x X gz gm gl gv CZ CM CL CV W) (F : Five W0.heap.size S X gz gm gl gv) (hx : x.At W)
    (D : ZDone S x.zn x.zn x.zs zd CZ W) (L : LDone S x.ln x.ln x.ls ld CL W) (hM : CM = vals x.mins) (hV : CV = bvals x.live) :
    HOwn W W0.heap.size gz gl gv ⟨zd, some ⟨gz, 0, none⟩, x.zn, x.zn, x.mins, some ⟨gm, 0, none⟩, x.mn, x.mn, x.cpus, ld, some ⟨gl, 0, none⟩, x.ln, x.ln, x.live, some ⟨gv, 0, none⟩, x.vn, x.vn⟩ ∧
    (Hx.mk zd (some ⟨gz, 0, none⟩) x.zn x.zn x.mins (some ⟨gm, 0, none⟩) x.mn x.mn x.cpus ld (some ⟨gl, 0, none⟩) x.ln x.ln x.live (some ⟨gv, 0, none⟩) x.vn x.vn).hp = x.hp := by
 obtain ⟨d1, d2⟩ := D.all hx.zones.len
 obtain ⟨l1, l2⟩ := L.all hx.lists.len
 have rz := hx.zones.reach
 have rm := hx.mins.reach
 have rl := hx.lists.reach
 have rv := hx.live.reach
 have f1 := F.z1
 have f2 := F.m1
 have f3 := F.l1
 have f4 := F.v1
 have oz : W.ownsRow W0.heap.size 70 4 (.slice (some ⟨gz, 0, none⟩) x.zn x.zn) x.zn (c4 (zd.map Zc.q)) := by rw [← d2]; exact owns_of_row I.rz (by omega) D.clen (by unfold maxLen; omega)
 have ol : W.ownsRow W0.heap.size 77 4 (.slice (some ⟨gl, 0, none⟩) x.ln x.ln) x.ln (c4 (ld.map Lc.q)) := by rw [← l2]; exact owns_of_row I.rl (by omega) L.clen (by unfold maxLen; omega)
 have lV : CV.length = x.vn * 3 := by rw [hV, length_bvals, hx.live.len]
 have lM : CM.length = x.mn * 1 := by rw [hM, length_vals, hx.mins.len]; omega
 have ov : W.ownsRow W0.heap.size 72 3 (.slice (some ⟨gv, 0, none⟩) x.vn x.vn) x.vn (bvals x.live) := by rw [← hV]; exact owns_of_row I.rv (by omega) lV (by unfold maxLen; omega)
 have om : W.ownsRow W0.heap.size 3 1 (.slice (some ⟨gm, 0, none⟩) x.mn x.mn) x.mn (vals x.mins) := by rw [← hM]; exact owns_of_row I.rm (by omega) lM (by unfold maxLen; omega)
 have hz : Zons W (some ⟨gz, 0, none⟩) x.zn zd := ⟨by have := congrArg List.length d1; simp only [List.length_map] at this; rw [this]; exact hx.zones.len, rz, c4_of_owns oz, fun y hy => (D.at_ y hy).1⟩
 have hl : Lsts W (some ⟨gl, 0, none⟩) x.ln ld := ⟨by have := congrArg List.length l1; simp only [List.length_map] at this; rw [this]; exact hx.lists.len, rl, c4_of_owns ol, fun y hy => (L.at_ y hy).1⟩
 have off : ∀ {ao : Option Addr}, Fresh S ao → Off3 gz gl gv ao := fun h a ha => by
  have := h a ha
  have g1 := F.z2
  have g2 := F.l2
  have g3 := F.v2
  exact ⟨by omega, by omega, by omega⟩
 have wk : ∀ {ao : Option Addr}, Fresh S ao → Fresh W0.heap.size ao := fun h => h.mono (by have := F.z2; omega)
 refine ⟨⟨oz, ol, ov, rfl, fun a ha => by cases ha; rfl, fun a ha => by cases ha; rfl, ⟨hz, nums_of_owns om rm, hl, blks_own ov rv⟩, F.zl, F.zv, F.lv, fun y hy => ?_, fun y hy => ?_, ?_, ?_, by omega, by omega, by omega⟩, ?_⟩
 ·obtain ⟨_, h1, h2⟩ := D.at_ y hy
  exact ⟨off h1, off h2, wk h1, wk h2⟩
 ·obtain ⟨_, h1, h2⟩ := L.at_ y hy
  exact ⟨off h1, wk h1, h2⟩
 ·intro a ha
  cases ha
  exact ⟨fun e => F.zm e.symm, F.ml, F.mv⟩
 ·intro a ha
  cases ha
  show W0.heap.size ≤ gm
  omega
 ·show Hp.mk _ _ _ _ _ = Hp.mk _ _ _ _ _
  rw [d1, l1]
theorem HOwn.but {W W' : World} {B gz gl gv c : Nat} {y : Hx} (h : HOwn W B gz gl gv y) (hb : But c W W') (hc : c < B) : HOwn W' B gz gl gv y := by
 have g1 := h.gzB
 have g2 := h.glB
 have g3 := h.gvB
 have keepOwn : ∀ {e : TypeId} {size n cap : Nat} {ao : Option Addr} {xs : List Value}, W.ownsRow B e size (.slice ao n cap) n xs → W'.ownsRow B e size (.slice ao n cap) n xs := by
  intro e size n cap ao xs ho
  refine ⟨ho.1, ?_⟩
  rcases ho.2 with hn | ⟨g, cp, cur, hv, hbg, hg, rest⟩
  ·exact .inl hn
  ·exact .inr ⟨g, cp, cur, hv, hbg, (hb.block g (lt_of_row hg) (by omega)).trans hg, rest⟩
 have fr : ∀ {ao : Option Addr}, Fresh B ao → ∀ a, ao = some a → a.block ≠ c := fun hf a ha => by have := hf a ha; omega
 have oz := keepOwn h.oz
 have ol := keepOwn h.ol
 have ov := keepOwn h.ov
 exact ⟨oz, ol, ov, h.ez, h.el, h.ev, ⟨⟨h.at_.zones.len, h.at_.zones.reach, c4_of_owns oz, fun z hz => hb.zn (h.at_.zones.at_ z hz) (fr (h.zoff z hz).2.2.1) (fr (h.zoff z hz).2.2.2)⟩, hb.nums h.at_.mins (fr h.mfresh), ⟨h.at_.lists.len, h.at_.lists.reach, c4_of_owns ol, fun l hl => hb.nums (h.at_.lists.at_ l hl) (fr (h.loff l hl).2.1)⟩, ⟨h.at_.live.len, h.at_.live.reach, blks_of_owns ov⟩⟩, h.zl, h.zv, h.lv, h.zoff, h.loff, h.moff, h.mfresh, h.gzB, h.glB, h.gvB⟩
theorem HOwn.weaken {W : World} {B B' gz gl gv : Nat} {y : Hx} (h : HOwn W B gz gl gv y) (hb : B' ≤ B) : HOwn W B' gz gl gv y :=
 ⟨owns_weaken h.oz hb, owns_weaken h.ol hb, owns_weaken h.ov hb, h.ez, h.el, h.ev, h.at_, h.zl, h.zv, h.lv, fun z hz => ⟨(h.zoff z hz).1, (h.zoff z hz).2.1, (h.zoff z hz).2.2.1.mono hb, (h.zoff z hz).2.2.2.mono hb⟩, fun l hl => ⟨(h.loff l hl).1, (h.loff l hl).2.1.mono hb, (h.loff l hl).2.2⟩, h.moff, h.mfresh.mono hb, Nat.le_trans hb h.gzB, Nat.le_trans hb h.glB, Nat.le_trans hb h.gvB⟩
theorem blks_lt {w : World} {ao : Option Addr} {n : Nat} {l : List Bk} (h : Blks w ao n l) (h0 : 0 < l.length) : ∀ a, ao = some a → a.block < w.heap.size := by
 intro a ha
 obtain ⟨b, off, e, hc, _⟩ := h.at_ 0 h0
 rw [e] at ha
 cases ha
 exact World.block_lt_of_cell? w _ hc
theorem nums_lt {w : World} {ao : Option Addr} {n : Nat} {l : List Int} (h : Nums w ao n l) (h0 : 0 < l.length) : ∀ a, ao = some a → a.block < w.heap.size := by
 intro a ha
 obtain ⟨b, off, e, hc⟩ := h.at_ 0 h0
 rw [e] at ha
 cases ha
 exact World.block_lt_of_cell? w _ hc
theorem blks_but {w w' : World} {b : Nat} {ao : Option Addr} {n : Nat} {l : List Bk} (h : Blks w ao n l) (hb : But b w w') (hne : 0 < l.length → ∀ a, ao = some a → a.block ≠ b) : Blks w' ao n l := by
 by_cases h0 : 0 < l.length
 ·exact hb.blks h (hne h0)
 ·exact ⟨h.len, h.reach, fun i hi => absurd hi (by omega)⟩
theorem nums_but {w w' : World} {b : Nat} {ao : Option Addr} {n : Nat} {l : List Int} (h : Nums w ao n l) (hb : But b w w') (hne : 0 < l.length → ∀ a, ao = some a → a.block ≠ b) : Nums w' ao n l := by
 by_cases h0 : 0 < l.length
 ·exact hb.nums h (hne h0)
 ·exact ⟨h.len, h.reach, fun i hi => absurd hi (by omega)⟩
structure Away (b : Nat) (y : Hx) : Prop where
 f : ∀ z ∈ y.zs, 0 < z.z.free.length → ∀ a, z.fo = some a → a.block ≠ b
 t : ∀ z ∈ y.zs, 0 < z.z.types.length → ∀ a, z.to_ = some a → a.block ≠ b
 m : 0 < y.mins.length → ∀ a, y.mo = some a → a.block ≠ b
 l : 0 < y.ls.length → ∀ a, y.lo = some a → a.block ≠ b
 p : ∀ l ∈ y.ls, 0 < l.l.pages.length → ∀ a, l.po = some a → a.block ≠ b
 v : 0 < y.live.length → ∀ a, y.vo = some a → a.block ≠ b
theorem away_old {w : World} {b : Nat} {y : Hx} (h : y.At w) (hb : w.heap.size ≤ b) : Away b y := by
 refine ⟨fun z hz h0 a ha => ?_, fun z hz h0 a ha => ?_, fun h0 a ha => ?_, fun h0 a ha => ?_, fun l hl h0 a ha => ?_, fun h0 a ha => ?_⟩
 ·have := blks_lt (h.zones.at_ z hz).free h0 a ha; omega
 ·have := nums_lt (h.zones.at_ z hz).types h0 a ha; omega
 ·have := nums_lt h.mins h0 a ha; omega
 ·obtain ⟨c, off, e, hc, _⟩ := h.lists.cells 0 (by simpa using h0)
  rw [e] at ha
  cases ha
  have := World.block_lt_of_cell? w _ hc
  dsimp only at this ⊢
  omega
 ·have := nums_lt (h.lists.at_ l hl) h0 a ha; omega
 ·have := blks_lt h.live h0 a ha; omega
def OffH (b : Nat) (y : Hx) : Prop := Away b y ∧ (0 < y.zs.length → ∀ a, y.zo = some a → a.block ≠ b)
theorem offH_old {w : World} {b : Nat} {y : Hx} (h : y.At w) (hb : w.heap.size ≤ b) : OffH b y := by
 refine ⟨away_old h hb, fun h0 a ha => ?_⟩
 obtain ⟨c, off, e, hc, _⟩ := h.zones.cells 0 (by simpa using h0)
 rw [e] at ha
 cases ha
 have := World.block_lt_of_cell? w _ hc
 dsimp only at this ⊢
 omega
theorem OffH.but {w w' : World} {b : Nat} {y : Hx} (o : OffH b y) (h : y.At w) (hb : But b w w') : y.At w' := by
 obtain ⟨a, z⟩ := o
 refine ⟨⟨h.zones.len, h.zones.reach, ?_, fun q hq => ⟨blks_but (h.zones.at_ q hq).free hb (a.f q hq), nums_but (h.zones.at_ q hq).types hb (a.t q hq)⟩⟩, nums_but h.mins hb a.m, ⟨h.lists.len, h.lists.reach, ?_, fun l hl => nums_but (h.lists.at_ l hl) hb (a.p l hl)⟩, blks_but h.live hb a.v⟩
 ·by_cases e : 0 < y.zs.length
  ·exact h.zones.cells.but hb (z e)
  ·intro i hi; rw [List.length_map] at hi; omega
 ·by_cases e : 0 < y.ls.length
  ·exact h.lists.cells.but hb (a.l e)
  ·intro i hi; rw [List.length_map] at hi; omega
theorem HOwn.offH {w : World} {B gz gl gv : Nat} {y : Hx} (h : HOwn w B gz gl gv y) {b : Nat} (hb : b < B) : OffH b y := by
 have hf : ∀ ao, Fresh B ao → ∀ a, ao = some a → a.block ≠ b := fun ao h a ha => by have := h a ha; omega
 refine ⟨⟨fun z hz _ => hf _ (h.zoff z hz).2.2.1, fun z hz _ => hf _ (h.zoff z hz).2.2.2, fun _ => hf _ h.mfresh, fun _ a ha => ?_, fun l hl _ => hf _ (h.loff l hl).2.1, fun _ a ha => ?_⟩, fun _ a ha => ?_⟩
 ·have := h.el a ha; have := h.glB; omega
 ·have := h.ev a ha; have := h.gvB; omega
 ·rw [h.ez] at ha; cases ha; have := h.gzB; dsimp only; omega
def blkA (a : Option Addr) : List Nat := (a.map (·.block)).toList
theorem mem_blkA {a : Option Addr} {b : Nat} : b ∈ blkA a ↔ ∃ x, a = some x ∧ x.block = b := by
 cases a with
 | none => simp [blkA]
 | some x => simp [blkA, eq_comm]
def Kit.Cc.blks (y : Cc) : List Nat := blkA y.no ++ (blkA y.so ++ blkA y.ao)
def Kit.Sy.blks (y : Sy) : List Nat := blkA y.wo ++ (blkA y.co ++ y.cs.flatMap Cc.blks)
structure CcO (s : Nat) (W : World) (y : Cc) : Prop where
 names : W.ownsRow s 9 1 (.slice y.no y.nn y.nc) y.nn (svals y.c.names)
 slabs : W.ownsRow s 49 3 (.slice y.so y.sn y.sc) y.sn (bvals y.c.slabs)
 act : W.ownsRow s 3 1 (.slice y.ao y.an y.ac) y.an (vals y.c.act)
 rn : y.nn * 16 ≤ 140737488351232
 rs : y.sn * 24 ≤ 140737488351232
 ra : y.an * 8 ≤ 140737488351232
theorem CcO.at_ {s : Nat} {W : World} {y : Cc} (h : CcO s W y) : y.At W :=
 ⟨⟨by have := h.names.1; simpa [svals] using this, h.rn, strs_of_owns h.names⟩, blks_own h.slabs h.rs, nums_of_owns h.act h.ra⟩
theorem CcO.below {s : Nat} {W W' : World} {y : Cc} (h : CcO s W y) (hb : Below W.heap.size W W') : CcO s W' y :=
 ⟨owns_below h.names hb (Nat.le_refl _), owns_below h.slabs hb (Nat.le_refl _), owns_below h.act hb (Nat.le_refl _), h.rn, h.rs, h.ra⟩
theorem owns_butL {w w' : World} {s b : Nat} {e : TypeId} {ao : Option Addr} {n cap size : Nat} {xs : List Value} (h : w.ownsRow s e size (.slice ao n cap) n xs) (hb : But b w w') (hne : b ∉ blkA ao) : w'.ownsRow s e size (.slice ao n cap) n xs := by
 refine h.kept (row := some b) ⟨hb.os, hb.tape, hb.output, hb.size, fun k hk hk2 => hb.block k hk (by intro g; exact hk2 (by rw [g]))⟩ ?_
 cases ao with
 | none => exact .inl rfl
 | some a => exact .inr (by simp [Value.ownBlock]; intro e; exact hne (mem_blkA.2 ⟨a, rfl, e⟩))
theorem CcO.but {s b : Nat} {W W' : World} {y : Cc} (h : CcO s W y) (hb : But b W W') (hne : b ∉ y.blks) : CcO s W' y := by
 unfold Kit.Cc.blks at hne
 simp only [List.mem_append, not_or] at hne
 exact ⟨owns_butL h.names hb hne.1, owns_butL h.slabs hb hne.2.1, owns_butL h.act hb hne.2.2, h.rn, h.rs, h.ra⟩
theorem owns_lt {w : World} {s : Nat} {e : TypeId} {ao : Option Addr} {n cap size : Nat} {xs : List Value} (h : w.ownsRow s e size (.slice ao n cap) n xs) {b : Nat} (hb : b ∈ blkA ao) : s ≤ b ∧ b < w.heap.size := by
 obtain ⟨a, rfl, rfl⟩ := mem_blkA.1 hb
 rcases h.2 with ⟨h', _⟩ | ⟨g, cap', cur, h', hB, hg, _⟩
 ·cases h'
 ·simp only [Value.slice.injEq, Option.some.injEq] at h'
  obtain ⟨rfl, _⟩ := h'
  exact ⟨hB, (Array.getElem?_eq_some_iff.1 hg).1⟩
theorem CcO.lt {s : Nat} {W : World} {y : Cc} (h : CcO s W y) {b : Nat} (hb : b ∈ y.blks) : s ≤ b ∧ b < W.heap.size := by
 unfold Kit.Cc.blks at hb
 simp only [List.mem_append] at hb
 rcases hb with hb | hb | hb
 ·exact owns_lt h.names hb
 ·exact owns_lt h.slabs hb
 ·exact owns_lt h.act hb
structure SyO (s : Nat) (W : World) (y : Sy) : Prop where
 words : W.ownsRow s 3 1 (.slice y.wo y.wn y.wc) y.wn (vals y.words)
 caches : W.ownsRow s 45 6 (.slice y.co y.cn y.cc) y.cn (c6 (y.cs.map Cc.q))
 parts : ∀ c ∈ y.cs, CcO s W c
 heap : y.h.At W
 dis : y.blks.Nodup
 off : ∀ b ∈ y.blks, OffH b y.h
 rw : y.wn * 8 ≤ 140737488351232
 rc : y.cn * 96 ≤ 140737488351232
theorem SyO.at_ {s : Nat} {W : World} {y : Sy} (h : SyO s W y) : y.At W :=
 ⟨nums_of_owns h.words h.rw, h.heap, ⟨by have := c6owns_len h.caches; simpa using this, h.rc, c6_of_owns h.caches, fun c hc => (h.parts c hc).at_⟩⟩
theorem SyO.below {s : Nat} {W W' : World} {y : Sy} (h : SyO s W y) (hb : Below W.heap.size W W') : SyO s W' y :=
 ⟨owns_below h.words hb (Nat.le_refl _), owns_below h.caches hb (Nat.le_refl _), fun c hc => (h.parts c hc).below hb, h.heap.below hb, h.dis, h.off, h.rw, h.rc⟩
structure ScI (s : Nat) (W : World) (x : Sy) (k g1 g2 : Nat) (M : List Value) (y : Hx) (ds : List Cc) : Prop where
 words : W.heap[g1]? = some (.cells (vals x.words).toArray 3 (0, 0))
 row : W.heap[g2]? = some (.cells (c6 (ds.map Cc.q) ++ M.drop (k * 6)).toArray 45 (0, 0))
 heap : y.At W
 parts : ∀ c ∈ ds, CcO s W c
 plain : ds.map (·.c) = (x.cs.take k).map (·.c)
 dis : (ds.flatMap Cc.blks).Nodup
 lo : ∀ b ∈ ds.flatMap Cc.blks, g1 < b ∧ g2 < b ∧ OffH b y
 o1 : OffH g1 y
 o2 : OffH g2 y
theorem ScI.below {s k g1 g2 : Nat} {W W' : World} {x : Sy} {M : List Value} {y : Hx} {ds : List Cc} (h : ScI s W x k g1 g2 M y ds) (hb : Below W.heap.size W W') : ScI s W' x k g1 g2 M y ds :=
 ⟨row_next h.words hb, row_next h.row hb, h.heap.below hb, fun c hc => (h.parts c hc).below hb, h.plain, h.dis, h.lo, h.o1, h.o2⟩
theorem ScI.but {s k g1 g2 b : Nat} {W W' : World} {x : Sy} {M : List Value} {y : Hx} {ds : List Cc} (h : ScI s W x k g1 g2 M y ds) (hb : But b W W') (h1 : g1 ≠ b) (h2 : g2 ≠ b) (ho : OffH b y) (hd : b ∉ ds.flatMap Cc.blks) : ScI s W' x k g1 g2 M y ds :=
 ⟨But.row hb h.words h1, But.row hb h.row h2, ho.but h.heap hb, fun c hc => (h.parts c hc).but hb (fun hm => hd (List.mem_flatMap.2 ⟨c, hc, hm⟩)), h.plain, h.dis, h.lo, h.o1, h.o2⟩
theorem ScI.len {s k g1 g2 : Nat} {W : World} {x : Sy} {M : List Value} {y : Hx} {ds : List Cc} (h : ScI s W x k g1 g2 M y ds) (hk : k ≤ x.cs.length) : ds.length = k := by
 have := congrArg List.length h.plain
 rw [List.length_map, List.length_map, List.length_take] at this
 omega
theorem row_storeV {P : Program} {t tt : TypeId} {b off n : Nat} {v : Value} {cs : List Value} {w : World} (hs : szB P t = some n) (hn : v.cells.size = n) (hrow : w.heap[b]? = some (.cells cs.toArray tt (0, 0))) (hf : off + n ≤ cs.length) (h1 : (v.cells.toList.all (·.oneCell')) = true) :
    ∃ W, (storeVar t ⟨b, off, none⟩ v).run P w = .ok () W ∧ But b w W ∧ W.heap[b]? = some (.cells (setL cs off v.cells.toList).toArray tt (0, 0)) := by
 unfold szB at hs
 simp only [Option.map_eq_some_iff] at hs
 obtain ⟨i, hi, rfl⟩ := hs
 obtain ⟨W, hr, hb, hw⟩ := row_store (P := P) (vs := v.cells.toList) (o := off) hrow (Nat.le_trans (Nat.add_le_add_left (Nat.le_of_eq (by simpa using hn)) _) hf) (fun u hu => List.all_eq_true.1 h1 u hu)
 exact ⟨W, run_storeVar' (a := ⟨b, off, none⟩) hi hn hr, hb, hw⟩
theorem setL_next {A M vs : List Value} {k n z : Nat} (hA : A.length = k * z) (hM : M.length = n * z) (hv : vs.length = z) (hk : k < n) : setL (A ++ M.drop (k * z)) (k * z) vs = (A ++ vs) ++ M.drop ((k + 1) * z) := by
 have h1 : (k + 1) * z ≤ n * z := Nat.mul_le_mul_right z hk
 have e1 : (k + 1) * z = k * z + z := Nat.succ_mul k z
 rw [setL_eq _ _ _ (by rw [List.length_append, List.length_drop, hA, hM, hv]; omega), hv]
 have a1 : (A ++ M.drop (k * z)).take (k * z) = A := by rw [← hA]; simp
 have a2 : (A ++ M.drop (k * z)).drop (k * z + z) = M.drop ((k + 1) * z) := by
  rw [List.drop_append, List.drop_eq_nil_of_le (by omega), List.nil_append, List.drop_drop, hA]
  congr 1
  omega
 rw [a1, a2]
theorem ScI.next {s k g1 g2 : Nat} {W W' : World} {x : Sy} {M : List Value} {y : Hx} {ds : List Cc} (h : ScI s W x k g1 g2 M y ds) (hM : M.length = x.cn * 6) (hl : x.cs.length = x.cn) (hk : k < x.cn) {c : Cc} (hc : CcO s W c) (hp : c.c = (x.cs.getD k .zero).c) (hn : c.blks.Nodup) (hlo : ∀ b ∈ c.blks, g1 < b ∧ g2 < b ∧ OffH b y ∧ b ∉ ds.flatMap Cc.blks) (hne : g1 ≠ g2)
    (hb : But g2 W W') (hrow : W'.heap[g2]? = some (.cells (setL (c6 (ds.map Cc.q) ++ M.drop (k * 6)) (k * 6) c.q.cells).toArray 45 (0, 0))) : ScI s W' x (k + 1) g1 g2 M y (ds ++ [c]) := by
 have hlen := h.len (by omega)
 have hd : g2 ∉ ds.flatMap Cc.blks := fun hm => by have := (h.lo _ hm).2.1; omega
 have hd2 : g2 ∉ c.blks := fun hm => by have := (hlo _ hm).2.1; omega
 refine ⟨But.row hb h.words hne, ?_, h.o2.but h.heap hb, fun d hd' => ?_, ?_, ?_, fun b hbm => ?_, h.o1, h.o2⟩
 ·rw [hrow, setL_next (by rw [length_c6, List.length_map, hlen]) hM rfl hk, List.map_append, c6_append]
  rfl
 ·rcases List.mem_append.1 hd' with hd' | hd'
  ·exact (h.parts d hd').but hb (fun hm => hd (List.mem_flatMap.2 ⟨d, hd', hm⟩))
  ·rw [List.mem_singleton] at hd'; subst hd'; exact hc.but hb hd2
 ·rw [List.map_append, h.plain, List.take_add_one, List.map_append, List.getElem?_eq_getElem (by omega)]
  simp [hp, List.getD_eq_getElem?_getD, show k < x.cs.length by omega]
 ·rw [List.flatMap_append, List.nodup_append]
  refine ⟨h.dis, by simpa using hn, fun a ha b hb' e => ?_⟩
  subst e
  exact (hlo a (by simpa using hb')).2.2.2 ha
 ·rw [List.flatMap_append, List.mem_append] at hbm
  rcases hbm with hbm | hbm
  ·exact h.lo b hbm
  ·have := hlo b (by simpa using hbm); exact ⟨this.1, this.2.1, this.2.2.1⟩
theorem ScI.done {s g1 g2 : Nat} {W : World} {x : Sy} {M : List Value} {y : Hx} {ds : List Cc} (h : ScI s W x x.cn g1 g2 M y ds) (hM : M.length = x.cn * 6) (hl : x.cs.length = x.cn) (hw : x.words.length = x.wn) (h1 : s ≤ g1) (h2 : s ≤ g2) (hne : g1 ≠ g2) (rw' : x.wn * 8 ≤ 140737488351232) (rc : x.cn * 96 ≤ 140737488351232) :
    SyO s W ⟨x.words, some ⟨g1, 0, none⟩, x.wn, x.wn, y, ds, some ⟨g2, 0, none⟩, x.cn, x.cn⟩ ∧ ds.map (·.c) = x.cs.map (·.c) := by
 have hlen := h.len (by omega)
 have hrow := h.row
 rw [List.drop_eq_nil_of_le (by omega), List.append_nil] at hrow
 have hb1 : ∀ b, b ∈ ds.flatMap Cc.blks → g1 ≠ b ∧ g2 ≠ b := fun b hb => by have := h.lo b hb; omega
 refine ⟨⟨owns_of_row (n := x.wn) h.words h1 (by simp [vals, hw]) (by unfold maxLen; omega), owns_of_row (n := x.cn) hrow h2 (by rw [length_c6, List.length_map, hlen]) (by unfold maxLen; omega), h.parts, h.heap, ?_, fun b hb => ?_, rw', rc⟩, ?_⟩
 ·show ([g1] ++ ([g2] ++ ds.flatMap Cc.blks)).Nodup
  rw [List.singleton_append, List.singleton_append, List.nodup_cons, List.nodup_cons]
  refine ⟨fun hm => ?_, fun hm => (hb1 _ hm).2 rfl, h.dis⟩
  rcases List.mem_cons.1 hm with e | hm
  ·exact hne e
  ·exact (hb1 _ hm).1 rfl
 ·have hb' : b ∈ [g1] ++ ([g2] ++ ds.flatMap Cc.blks) := hb
  rw [List.singleton_append, List.singleton_append] at hb'
  rcases List.mem_cons.1 hb' with rfl | hb'
  ·exact h.o1
  ·rcases List.mem_cons.1 hb' with rfl | hb'
   ·exact h.o2
   ·exact (h.lo b hb').2.2
 ·rw [h.plain, ← hl, List.take_length]
def Grew (ao : Option Addr) (w W : World) : Prop := (∃ g, ao = some ⟨g, 0, none⟩ ∧ But g w W) ∨ Below w.heap.size w W
theorem Grew.row {ao : Option Addr} {w W : World} {b : Nat} {x : Obj} (h : Grew ao w W) (hr : w.heap[b]? = some x) (hne : b ∉ blkA ao) : W.heap[b]? = some x := by
 rcases h with ⟨g, rfl, hb⟩ | hb
 ·exact But.row hb hr (fun e => hne (mem_blkA.2 ⟨_, rfl, e.symm⟩))
 ·exact row_next hr hb
theorem Grew.owns {ao bo : Option Addr} {w W : World} {s n cap size : Nat} {e : TypeId} {xs : List Value} (h : Grew ao w W) (ho : w.ownsRow s e size (.slice bo n cap) n xs) (hne : ∀ b ∈ blkA ao, b ∉ blkA bo) : W.ownsRow s e size (.slice bo n cap) n xs := by
 rcases h with ⟨g, rfl, hb⟩ | hb
 ·exact owns_butL ho hb (hne g (mem_blkA.2 ⟨_, rfl, rfl⟩))
 ·exact owns_below ho hb (Nat.le_refl _)
theorem Grew.below {ao : Option Addr} {w0 w W : World} {B : Nat} (h : Grew ao w W) (hb : Below B w0 w) (hB : B ≤ w.heap.size) (hg : ∀ b ∈ blkA ao, B ≤ b) : Below B w0 W := by
 rcases h with ⟨g, rfl, h1⟩ | h1
 ·exact hb.trans (h1.below (hg g (mem_blkA.2 ⟨_, rfl, rfl⟩)) hB)
 ·exact hb.trans (h1.mono hB)
theorem Grew.size {ao : Option Addr} {w W : World} (h : Grew ao w W) : w.heap.size ≤ W.heap.size := by
 rcases h with ⟨g, rfl, h1⟩ | h1
 ·exact h1.size
 ·exact h1.size
theorem info_str : (Try.prog.info? 9).map (fun i => (i.zero, i.size, i.bytes)) = some (some (.string ⟨#[]⟩), 1, 16) := by kernel_rfl
theorem bs_int1 (a : Int) (w : World) : (Instr.buildSlice 22 1 #[(0, .int .i64 a)]).run Try.prog w = .ok (.slice (some ⟨w.heap.size, 0, none⟩) 1 1) (w.alloc (.cells #[.int .i64 a] 3)) := by
 simp [go_sem]
theorem bs_str1 (a : ByteArray) (w : World) : (Instr.buildSlice 42 1 #[(0, .string a)]).run Try.prog w = .ok (.slice (some ⟨w.heap.size, 0, none⟩) 1 1) (w.alloc (.cells #[.string a] 9)) := by
 simp [go_sem]
section
variable {A : Act} {N : Nat} {L : List (Nat × Value)} {l rest : List Oper} {o : Oper} {w : World} {Q : Exit → Act → World → Prop}
theorem l_bs1 {d : Nat} {t e : TypeId} {x : Operand} {v : Value} (f : Fr A N L) (hd : o.dst = some d) (hN : Nat.blt d N = true) (hw : wantB l L o = some true) (ho : o.op = .buildSlice t 1 [(0, x)].toArray) (hx : ev L x = some v)
    (hr : ∀ w, (Instr.buildSlice t 1 #[(0, v)]).run Try.prog w = .ok (.slice (some ⟨w.heap.size, 0, none⟩) 1 1) (w.alloc (.cells #[v] e)))
    (h : ∀ g W, w.heap.size = g → Below w.heap.size w W → W.heap[g]? = some (.cells #[v] e (0, 0)) → ∀ A', Fr A' N ((d, .slice (some ⟨g, 0, none⟩) 1 1) :: L) → wpList Try.prog l.toArray Q rest A' W) : wpList Try.prog l.toArray Q (o :: rest) A w := by
 refine l_opR (R := fun u W => u = .slice (some ⟨w.heap.size, 0, none⟩) 1 1 ∧ Below w.heap.size w W ∧ W.heap[w.heap.size]? = some (.cells #[v] e (0, 0))) f hd hN hw ⟨_, _, bs_exec (vs := [(0, v)]) f ho (by simp [evp, hx]) (hr w), rfl, (Below.refl _ _).alloc (Nat.le_refl _) _, heap_alloc_new _ _⟩ ?_
 rintro _ W ⟨rfl, hb, hr2⟩ A' f'
 exact h _ W rfl hb hr2 A' f'
theorem l_ap1 {d : Nat} {t e : TypeId} {z : Value} {by_ : Nat} {x y : Operand} {base gb : Nat} {uo : Option Addr} {un uc : Nat} {xs : List Value} {v : Value} (f : Fr A N L) (hd : o.dst = some d) (hN : Nat.blt d N = true) (hw : wantB l L o = some true) (ho : o.op = .call ⟨.builtin .append, #[x, y], #[t, t]⟩) (hx : ev L x = some (.slice uo un uc)) (hy : ev L y = some (.slice (some ⟨gb, 0, none⟩) 1 1))
    (ht : Try.prog.underlying t = some (.slice e)) (hi : (Try.prog.info? e).map (fun i => (i.zero, i.size, i.bytes)) = some (some z, 1, by_)) (hz : z.cells.size = 1) (own : w.ownsRow base e 1 (.slice uo un uc) un xs) (hr : w.heap[gb]? = some (.cells #[v] e (0, 0))) (h1 : v.oneCell' = true)
    (hm : (un + 1) * (by_ + 1) ≤ 140737488355328) (hb : base ≤ w.heap.size)
    (h : ∀ g c W, W.ownsRow base e 1 (.slice (some ⟨g, 0, none⟩) (un + 1) c) (un + 1) (xs ++ [v]) → Grew uo w W → (uo = some ⟨g, 0, none⟩ ∨ g = w.heap.size) → ∀ A', Fr A' N ((d, .slice (some ⟨g, 0, none⟩) (un + 1) c) :: L) → wpList Try.prog l.toArray Q rest A' W) : wpList Try.prog l.toArray Q (o :: rest) A w := by
 obtain ⟨i1, hj, hy0, hy1, hy2⟩ := info_parts hi
 have hnews : ∀ j u, ([v] : List Value)[j]? = some u → w.cell? ((⟨gb, 0, none⟩ : Addr).add j) = some u := by
  intro j u hju
  rw [add_at, Nat.zero_add]
  simp only [World.cell?, hr]
  simpa using hju
 have hm2 : (un + 1) * by_ + (un + 1) ≤ 140737488355328 := by rw [← Nat.mul_succ]; exact hm
 obtain ⟨g', c', W, hrun, ow, hcs⟩ := append_row (P := Try.prog) w base t o.type e i1 z 1 ht hj hy0 hy1 hz uo un uc xs own ⟨gb, 0, none⟩ 1 1 [v] rfl hnews (by simpa using h1) (by omega) (by unfold maxLen; omega) (by rw [hy2]; omega) hb
 refine l_opR (R := fun u W => ∃ g c, u = .slice (some ⟨g, 0, none⟩) (un + 1) c ∧ W.ownsRow base e 1 (.slice (some ⟨g, 0, none⟩) (un + 1) c) (un + 1) (xs ++ [v]) ∧ Grew uo w W ∧ (uo = some ⟨g, 0, none⟩ ∨ g = w.heap.size)) f hd hN hw ⟨_, W, append_exec f ho hx hy hrun, g', c', rfl, ow, ?_, ?_⟩ ?_
 ·rcases hcs with ⟨e1, e2⟩ | ⟨_, e2⟩
  ·exact .inl ⟨g', e1, e2⟩
  ·exact .inr e2
 ·rcases hcs with ⟨e1, e2⟩ | ⟨e1, _⟩
  ·exact .inl e1
  ·exact .inr e1
 ·rintro _ W ⟨g, c, rfl, h2, h3, h4⟩ A' f'
  exact h g c W h2 h3 h4 A' f'
theorem l_mkBools {d n : Nat} {x y : Operand} (f : Fr A N L) (hd : o.dst = some d) (hN : Nat.blt d N = true) (hw : wantB l L o = some true) (ho : o.op = .makeSlice 102 x y) (hx : ev L x = some (.int .i64 (n : Nat))) (hy : ev L y = some (.int .i64 (n : Nat))) (hn : n * 8 ≤ 140737488351232)
    (h : ∀ (b : Nat) (W : World), w.heap.size = b → Below w.heap.size w W → W.heap[b]? = some (.cells (List.replicate n (.bool false)).toArray 4 (0, 0)) → ∀ A', Fr A' N ((d, .slice (some ⟨b, 0, none⟩) n n) :: L) → wpList Try.prog l.toArray Q rest A' W) : wpList Try.prog l.toArray Q (o :: rest) A w := by
 have hi : (Try.prog.info? 4).map (fun i => (i.zero, i.size, i.bytes)) = some (some (.bool false), 1, 1) := by kernel_rfl
 obtain ⟨i1, hj, hy0, hy1, hy2⟩ := info_parts hi
 have hr := run_make (P := Try.prog) w 102 4 i1 (.bool false) Try.underlying102 hj hy0 .i64 .i64 n n (by omega) (Int.le_refl _) (by rw [hy2]; omega) (by have : (140737488351232 : Nat) < maxLen := (by decide); unfold maxLen at this; omega)
 have hc : madeCells (Value.bool false).cells (n * i1.size) = (List.replicate n (.bool false)).toArray := by
  rw [hy1, Nat.mul_one]
  apply Array.ext
  ·simp [size_madeCells]
  ·intro i h1 h2
   simp [madeCells, Value.cells, Nat.mod_one]
 refine l_opR (R := fun v W => v = .slice (some ⟨w.heap.size, 0, none⟩) n n ∧ W = w.alloc (.cells (List.replicate n (.bool false)).toArray 4)) f hd hN hw ⟨_, _, make_exec f ho hx hy (by rw [← hc]; simpa using hr), rfl, rfl⟩ ?_
 rintro v W ⟨rfl, rfl⟩ A' f'
 exact h w.heap.size _ rfl ((Below.refl _ _).alloc (Nat.le_refl _) _) (heap_alloc_new _ _) A' f'
end
theorem isAddr_any (ao : Option Addr) (len cap : Nat) (i : Int) (w : World) :
    Calls Try.prog 87 #[.slice ao len cap, .int .i64 i] w fun e w' => e = .returned (.bool (addrB len i)) ∧ w = w' := by
 by_cases h1 : 0 ≤ i
 ·by_cases h2 : i < len
  ·have hI : Hid (addrB len i = true) := addrB_t ⟨h1, h2⟩
   go_enter Try.func87, Try.ntmps87
   go_wp2
   go_ret
   exact ⟨ret_bool hI.out.symm, rfl⟩
  ·have hI : Hid (addrB len i = false) := addrB_f (by omega)
   go_enter Try.func87, Try.ntmps87
   go_wp2
   go_ret
   exact ⟨ret_bool hI.out.symm, rfl⟩
 ·have hI : Hid (addrB len i = false) := addrB_f (by omega)
  go_enter Try.func87, Try.ntmps87
  go_wp2
  go_ret
  exact ⟨ret_bool hI.out.symm, rfl⟩
def fol (xs : List Int) : Nat → Int → Option (List Int)
 | 0, a => if a = -1 then some [] else none
 | m + 1, a => if a = -1 then some [] else if 0 ≤ a ∧ a < xs.length then (fol xs m (xs.getD a.toNat 0)).map (a :: ·) else none
theorem fol_end (xs : List Int) (m : Nat) : fol xs m (-1) = some [] := by cases m <;> simp [fol]
theorem fol_full (xs : List Int) (a : Int) (h : a ≠ -1) : fol xs 0 a = none := by simp [fol, h]
theorem fol_out (xs : List Int) (m : Nat) (a : Int) (h : a ≠ -1) (h' : ¬ (0 ≤ a ∧ a < xs.length)) : fol xs m a = none := by
 cases m
 ·simp [fol, h]
 ·simp only [fol]; rw [if_neg h, if_neg h']
theorem fol_step (xs : List Int) (m k : Nat) (h' : k < xs.length) : fol xs (m + 1) k = (fol xs m (xs.getD k 0)).map ((k : Int) :: ·) := by
 simp only [fol]; rw [if_neg (by omega), if_pos (by omega)]; rfl
theorem fol_map_nil (r : Option (List Int)) : r = r.map ([] ++ ·) := by cases r <;> rfl
theorem fol_map_snoc {r : Option (List Int)} {L : List Int} {b : Int} : (r.map (b :: ·)).map (L ++ ·) = r.map ((L ++ [b]) ++ ·) := by cases r <;> simp
def lenV : Value → Nat | .slice _ n _ => n | _ => 0
theorem follow_neg (w : World) (ao : Option Addr) (n cap : Nat) (a most : Int) (h : most < 0) :
    Calls Try.prog 68 #[.slice ao n cap, .int .i64 a, .int .i64 most] w fun e w' => e = .returned (.tuple #[.slice none 0 0, .int .i64 8]) ∧ w = w' := by
 go_enter Try.func68, Try.ntmps68
 go_wp2
 go_ret2
 exact ⟨rfl, rfl⟩
def FolEnd (w w' : World) (r : Option (List Int)) (e : Ending) : Prop :=
 match r with
 | none => e = .returned (.tuple #[.slice none 0 0, .int .i64 8])
 | some l => ∃ bo c, e = .returned (.tuple #[.slice bo l.length c, .int .i64 0]) ∧ w'.ownsRow w.heap.size 3 1 (.slice bo l.length c) l.length (vals l)
theorem follow_great (w : World) (ao : Option Addr) (n cap : Nat) (a : Int) (most : Nat) (xs : List Int) (hn : xs.length = n) (hr : n * 8 ≤ 140737488351232) (hx : IntsAt w ao xs) (hlt : n < most) :
    Calls Try.prog 68 #[.slice ao n cap, .int .i64 a, .int .i64 most] w fun e w' => FolEnd w w' (fol xs n a) e ∧ Below w.heap.size w w' := by
 obtain ⟨i0, hi, hz0, hz1, hz2⟩ := info_parts info_int
 have hMn : n ≤ n := by omega
 have hp : ¬ (most : Int) < 0 := by omega
 go_enter Try.func68, Try.ntmps68
 go_wp2
 go_loopw [8, 9] (fun v av wr => ∃ (k c : Nat) (bo : Option Addr) (L : List Int) (b : Int), k ≤ n ∧ v = .slice bo k c ∧ av = .int .i64 b ∧ wr.ownsRow w.heap.size 3 1 (.slice bo k c) k (vals L) ∧ Below w.heap.size w wr ∧ Hid (fol xs n a = (fol xs (n - k) b).map (L ++ ·))) (fun v _ _ => n - lenV v)
 case atStart => exact ⟨0, 0, none, [], a, Nat.zero_le _, rfl, rfl, World.ownsRow_nil _ _ _ _, Below.refl _ _, fol_map_nil _⟩
 case round =>
  obtain ⟨k, c, bo, L, b, hk, rfl, rfl, hown, hb, hF⟩ := hrel
  have hs := hb.size
  by_cases h1 : b = -1
  ·subst h1
   go_wp2
   go_ret2
   rw [hF.out, fol_end]
   have hl := owns_len hown
   refine ⟨⟨bo, c, ?_, ?_⟩, hb⟩
   ·simp [hl]
   ·simpa [hl] using hown
  ·have h1' : (b != -1) = true := by simpa using h1
   by_cases h2 : k = n
   ·have h2' : ((k : Int) == (n : Int)) = true := by simp; omega
    have hN : Hid (fol xs n a = none) := by show _ = _; rw [hF.out, h2, Nat.sub_self, fol_full _ _ h1]; rfl
    clear h2 hF hown
    go_wp2
    go_ret2
    rw [hN.out]
    exact ⟨rfl, hb⟩
   ·have h2' : ((k : Int) == (n : Int)) = false := by simp; omega
    by_cases h3 : 0 ≤ b ∧ b < n
    ·obtain ⟨j, rfl⟩ : ∃ j : Nat, b = j := ⟨b.toNat, by omega⟩
     have hI : addrB n j = true := addrB_t h3
     have hj : j < n := by omega
     have hml : k + 1 ≤ maxLen := by unfold maxLen; omega
     have hkM : k + 1 ≤ n := by omega
     have hE : Hid (fol xs n a = (fol xs (n - (k + 1)) (xs.getD j 0)).map ((L ++ [(j : Int)]) ++ ·)) := by
      have e0 : n - k = (n - (k + 1)) + 1 := by omega
      show _ = _
      rw [hF.out, e0, fol_step _ _ _ (by omega), fol_map_snoc]
     clear h1 h2 h3 hF
     go_wp2_with (first | (go_at_call 87; refine (isAddr_any _ _ _ _ _).mono ?_; rintro e w' ⟨rfl, rfl⟩) | (at_builtin; refine wpList_append_own _ rfl (.tmp 33) (.tmp 35) 22 rfl w.heap.size 3 i0 (.int .i64 0) 1 8 Try.underlying22 hi hz0 hz1 hz2 rfl (by decide) _ _ _ rfl (hown.alloc _) ⟨wr.heap.size, 0, none⟩ 1 1 [.int .i64 j] rfl rfl ?c1 ?c2 hml ?c4 ?c5 ?_))
     case c1 => exact cell_one_new' _ _ _
     case c2 => exact ints_oneCell .i64 [_]
     case c4 => omega
     case c5 => simp; omega
     intro v' w1 hown' hgrow _
     have hb' : Below w.heap.size w w1 := (hb.alloc hs _).grown hgrow (by simp; omega) (fun g hg => (hown.lt g hg).1)
     obtain ⟨b', o', x, rfl, cc, hX⟩ := (hx.below hb').at j (by omega)
     have hO : w1.ownsRow w.heap.size 3 1 v' (k + 1) (vals (L ++ [(j : Int)])) := by rw [vals_append]; exact hown'
     obtain ⟨bo', c', rfl⟩ := owns_shape hO
     rw [hX.out] at hE
     clear hown hown' hgrow hb hx
     go_wp2
     go_roundw
     case rel => exact ⟨k + 1, c', bo', _, x, by omega, rfl, rfl, hO, hb', hE⟩
     case measure => simp [lenV]; omega
    ·have hI : addrB n b = false := addrB_f h3
     have hN : Hid (fol xs n a = none) := by show _ = _; rw [hF.out, fol_out _ _ _ h1 (by omega)]; rfl
     clear h2 h3 hF hown
     go_wp2_with (go_at_call 87; refine (isAddr_any _ _ _ _ _).mono ?_; rintro e w' ⟨rfl, rfl⟩)
     go_ret2
     rw [hN.out]
     exact ⟨rfl, hb⟩
theorem follow_small (w : World) (ao : Option Addr) (n cap : Nat) (a : Int) (most : Nat) (xs : List Int) (hn : xs.length = n) (hr : n * 8 ≤ 140737488351232) (hx : IntsAt w ao xs) (hlt : ¬ n < most) :
    Calls Try.prog 68 #[.slice ao n cap, .int .i64 a, .int .i64 most] w fun e w' => FolEnd w w' (fol xs most a) e ∧ Below w.heap.size w w' := by
 obtain ⟨i0, hi, hz0, hz1, hz2⟩ := info_parts info_int
 have hMn : most ≤ n := by omega
 have hp : ¬ (most : Int) < 0 := by omega
 go_enter Try.func68, Try.ntmps68
 go_wp2
 go_loopw [8, 9] (fun v av wr => ∃ (k c : Nat) (bo : Option Addr) (L : List Int) (b : Int), k ≤ most ∧ v = .slice bo k c ∧ av = .int .i64 b ∧ wr.ownsRow w.heap.size 3 1 (.slice bo k c) k (vals L) ∧ Below w.heap.size w wr ∧ Hid (fol xs most a = (fol xs (most - k) b).map (L ++ ·))) (fun v _ _ => most - lenV v)
 case atStart => exact ⟨0, 0, none, [], a, Nat.zero_le _, rfl, rfl, World.ownsRow_nil _ _ _ _, Below.refl _ _, fol_map_nil _⟩
 case round =>
  obtain ⟨k, c, bo, L, b, hk, rfl, rfl, hown, hb, hF⟩ := hrel
  have hs := hb.size
  by_cases h1 : b = -1
  ·subst h1
   go_wp2
   go_ret2
   rw [hF.out, fol_end]
   have hl := owns_len hown
   refine ⟨⟨bo, c, ?_, ?_⟩, hb⟩
   ·simp [hl]
   ·simpa [hl] using hown
  ·have h1' : (b != -1) = true := by simpa using h1
   by_cases h2 : k = most
   ·have h2' : ((k : Int) == (most : Int)) = true := by simp; omega
    have hN : Hid (fol xs most a = none) := by show _ = _; rw [hF.out, h2, Nat.sub_self, fol_full _ _ h1]; rfl
    clear h2 hF hown
    go_wp2
    go_ret2
    rw [hN.out]
    exact ⟨rfl, hb⟩
   ·have h2' : ((k : Int) == (most : Int)) = false := by simp; omega
    by_cases h3 : 0 ≤ b ∧ b < n
    ·obtain ⟨j, rfl⟩ : ∃ j : Nat, b = j := ⟨b.toNat, by omega⟩
     have hI : addrB n j = true := addrB_t h3
     have hj : j < n := by omega
     have hml : k + 1 ≤ maxLen := by unfold maxLen; omega
     have hkM : k + 1 ≤ most := by omega
     have hE : Hid (fol xs most a = (fol xs (most - (k + 1)) (xs.getD j 0)).map ((L ++ [(j : Int)]) ++ ·)) := by
      have e0 : most - k = (most - (k + 1)) + 1 := by omega
      show _ = _
      rw [hF.out, e0, fol_step _ _ _ (by omega), fol_map_snoc]
     clear h1 h2 h3 hF
     go_wp2_with (first | (go_at_call 87; refine (isAddr_any _ _ _ _ _).mono ?_; rintro e w' ⟨rfl, rfl⟩) | (at_builtin; refine wpList_append_own _ rfl (.tmp 33) (.tmp 35) 22 rfl w.heap.size 3 i0 (.int .i64 0) 1 8 Try.underlying22 hi hz0 hz1 hz2 rfl (by decide) _ _ _ rfl (hown.alloc _) ⟨wr.heap.size, 0, none⟩ 1 1 [.int .i64 j] rfl rfl ?c1 ?c2 hml ?c4 ?c5 ?_))
     case c1 => exact cell_one_new' _ _ _
     case c2 => exact ints_oneCell .i64 [_]
     case c4 => omega
     case c5 => simp; omega
     intro v' w1 hown' hgrow _
     have hb' : Below w.heap.size w w1 := (hb.alloc hs _).grown hgrow (by simp; omega) (fun g hg => (hown.lt g hg).1)
     obtain ⟨b', o', x, rfl, cc, hX⟩ := (hx.below hb').at j (by omega)
     have hO : w1.ownsRow w.heap.size 3 1 v' (k + 1) (vals (L ++ [(j : Int)])) := by rw [vals_append]; exact hown'
     obtain ⟨bo', c', rfl⟩ := owns_shape hO
     rw [hX.out] at hE
     clear hown hown' hgrow hb hx
     go_wp2
     go_roundw
     case rel => exact ⟨k + 1, c', bo', _, x, by omega, rfl, rfl, hO, hb', hE⟩
     case measure => simp [lenV]; omega
    ·have hI : addrB n b = false := addrB_f h3
     have hN : Hid (fol xs most a = none) := by show _ = _; rw [hF.out, fol_out _ _ _ h1 (by omega)]; rfl
     clear h2 h3 hF hown
     go_wp2_with (go_at_call 87; refine (isAddr_any _ _ _ _ _).mono ?_; rintro e w' ⟨rfl, rfl⟩)
     go_ret2
     rw [hN.out]
     exact ⟨rfl, hb⟩
theorem follow_any (w : World) (ao : Option Addr) (n cap : Nat) (a : Int) (most : Nat) (xs : List Int) (hn : xs.length = n) (hr : n * 8 ≤ 140737488351232) (hx : IntsAt w ao xs) :
    Calls Try.prog 68 #[.slice ao n cap, .int .i64 a, .int .i64 most] w fun e w' => FolEnd w w' (fol xs (min most n) a) e ∧ Below w.heap.size w w' := by
 by_cases h : n < most
 ·rw [Nat.min_eq_right (by omega)]; exact follow_great w ao n cap a most xs hn hr hx h
 ·rw [Nat.min_eq_left (by omega)]; exact follow_small w ao n cap a most xs hn hr hx h
theorem follow_none (w : World) (ao : Option Addr) (n cap : Nat) (a mi : Int) (most : Nat) (xs : List Int) (hmi : mi = most) (hn : xs.length = n) (hr : n * 8 ≤ 140737488351232) (hx : IntsAt w ao xs) (h : fol xs (min most n) a = none) :
    Calls Try.prog 68 #[.slice ao n cap, .int .i64 a, .int .i64 mi] w fun e w' => e = .returned (.tuple #[.slice none 0 0, .int .i64 8]) ∧ Below w.heap.size w w' := by
 subst hmi
 refine (follow_any w ao n cap a most xs hn hr hx).mono ?_
 rintro e w' ⟨h1, h2⟩
 rw [h] at h1
 exact ⟨h1, h2⟩
theorem follow_some (w : World) (ao : Option Addr) (n cap : Nat) (a mi : Int) (most : Nat) (xs l : List Int) (m : Nat) (hmi : mi = most) (hn : xs.length = n) (hr : n * 8 ≤ 140737488351232) (hx : IntsAt w ao xs) (h : fol xs (min most n) a = some l) (hm : l.length = m) :
    Calls Try.prog 68 #[.slice ao n cap, .int .i64 a, .int .i64 mi] w fun e w' => ∃ bo c, e = .returned (.tuple #[.slice bo m c, .int .i64 0]) ∧ w'.ownsRow w.heap.size 3 1 (.slice bo m c) m (vals l) ∧ Below w.heap.size w w' := by
 subst hmi
 subst hm
 refine (follow_any w ao n cap a most xs hn hr hx).mono ?_
 rintro e w' ⟨h1, h2⟩
 rw [h] at h1
 obtain ⟨bo, c, h1, h3⟩ := h1
 exact ⟨bo, c, h1, h3, h2⟩
inductive Chain (xs : List Int) : Int → List Int → Prop
 | nil : Chain xs (-1) []
 | cons {a : Int} {l : List Int} : 0 ≤ a → a < xs.length → Chain xs (xs.getD a.toNat 0) l → Chain xs a (a :: l)
theorem Chain.det {xs : List Int} {a : Int} {l : List Int} (h : Chain xs a l) : ∀ m, Chain xs a m → l = m := by
 induction h with
 | nil =>
  intro m hm
  cases hm with
  | nil => rfl
  | cons h0 _ _ => omega
 | cons h0 h1 _ ih =>
  intro m hm
  cases hm with
  | nil => omega
  | cons _ _ h2 => rw [ih _ h2]
theorem Chain.in_ {xs : List Int} {a : Int} {l : List Int} (h : Chain xs a l) : ∀ y ∈ l, 0 ≤ y ∧ y < xs.length := by
 induction h with
 | nil => intro y hy; cases hy
 | cons h0 h1 _ ih =>
  intro y hy
  rcases List.mem_cons.1 hy with rfl | hy
  ·exact ⟨h0, h1⟩
  ·exact ih y hy
theorem chain_of_fol {xs : List Int} : ∀ {m : Nat} {a : Int} {l : List Int}, fol xs m a = some l → Chain xs a l
 | 0, a, l, h => by
  unfold fol at h
  split at h
  ·rename_i e; cases h; rw [e]; exact .nil
  ·cases h
 | m + 1, a, l, h => by
  unfold fol at h
  split at h
  ·rename_i e; cases h; rw [e]; exact .nil
  ·split at h
   ·rename_i h2
    cases hf : fol xs m (xs.getD a.toNat 0) with
    | none => rw [hf] at h; cases h
    | some l2 =>
     rw [hf] at h
     cases h
     exact .cons h2.1 h2.2 (chain_of_fol hf)
   ·cases h
theorem fol_of_chain {xs : List Int} {a : Int} {l : List Int} (h : Chain xs a l) : ∀ m, l.length ≤ m → fol xs m a = some l := by
 induction h with
 | nil => intro m _; exact fol_end xs m
 | cons h0 h1 _ ih =>
  intro m hm
  cases m with
  | zero => simp at hm
  | succ m =>
   unfold fol
   rw [if_neg (by omega), if_pos ⟨h0, h1⟩, ih m (by simpa using hm)]
   rfl
theorem Chain.suf {xs : List Int} {a : Int} {l : List Int} (h : Chain xs a l) : ∀ y ∈ l, ∃ m, Chain xs y m ∧ m.length ≤ l.length := by
 induction h with
 | nil => intro y hy; cases hy
 | @cons a l h0 h1 h2 ih =>
  intro y hy
  rcases List.mem_cons.1 hy with rfl | hy
  ·exact ⟨_, .cons h0 h1 h2, Nat.le_refl _⟩
  ·obtain ⟨m, hm, hl⟩ := ih y hy
   exact ⟨m, hm, by simp only [List.length_cons]; omega⟩
theorem Chain.nodup {xs : List Int} {a : Int} {l : List Int} (h : Chain xs a l) : l.Nodup := by
 induction h with
 | nil => exact List.nodup_nil
 | @cons a l h0 h1 h2 ih =>
  refine List.nodup_cons.2 ⟨fun hm => ?_, ih⟩
  obtain ⟨m, hm, hl⟩ := h2.suf a hm
  have := hm.det _ (.cons h0 h1 h2)
  rw [this] at hl
  simp only [List.length_cons] at hl
  omega
structure FoI (xs : List Int) (a : Int) (v : List Int) (cur : Int) : Prop where
 fwd : ∀ l, Chain xs cur l → Chain xs a (v ++ l)
 bwd : ∀ l, Chain xs a l → ∃ m, l = v ++ m ∧ Chain xs cur m
theorem FoI.start (xs : List Int) (a : Int) : FoI xs a [] a := ⟨fun _ h => h, fun l h => ⟨l, rfl, h⟩⟩
theorem FoI.step {xs : List Int} {a cur : Int} {v : List Int} (h : FoI xs a v cur) (hc : 0 ≤ cur ∧ cur < xs.length) (_ : cur ∉ v) : FoI xs a (v ++ [cur]) (xs.getD cur.toNat 0) := by
 refine ⟨fun l hl => ?_, fun l hl => ?_⟩
 ·rw [List.append_assoc]; exact h.fwd _ (.cons hc.1 hc.2 hl)
 ·obtain ⟨m, rfl, hm⟩ := h.bwd l hl
  cases hm with
  | nil => omega
  | cons _ _ h2 => exact ⟨_, by rw [List.append_assoc]; rfl, h2⟩
theorem FoI.done {xs : List Int} {a : Int} {v : List Int} (h : FoI xs a v (-1)) : Chain xs a v := by
 have := h.fwd [] .nil
 rwa [List.append_nil] at this
theorem FoI.long {xs : List Int} {a cur most : Int} {v l : List Int} (h : FoI xs a v cur) (hc : cur ≠ -1 ∧ most ≤ v.length) (hl : Chain xs a l) (hm : (l.length : Int) ≤ most) : False := by
 obtain ⟨m, rfl, h2⟩ := h.bwd l hl
 cases h2 with
 | nil => exact hc.1 rfl
 | cons _ _ _ => simp only [List.length_append, List.length_cons] at hm; omega
theorem FoI.out {xs : List Int} {a cur : Int} {v l : List Int} (h : FoI xs a v cur) (hc : cur ≠ -1) (ho : ¬ (0 ≤ cur ∧ cur < xs.length)) (hl : Chain xs a l) : False := by
 obtain ⟨m, rfl, h2⟩ := h.bwd l hl
 cases h2 with
 | nil => exact hc rfl
 | cons h0 h1 _ => exact ho ⟨h0, h1⟩
theorem FoI.twice {xs : List Int} {a cur : Int} {v l : List Int} (h : FoI xs a v cur) (hv : cur ∈ v) (hl : Chain xs a l) : False := by
 have hn := hl.nodup
 obtain ⟨m, rfl, h2⟩ := h.bwd l hl
 rw [List.nodup_append] at hn
 cases h2 with
 | nil =>
  have := hl.in_ (-1) (List.mem_append.2 (.inl hv))
  omega
 | cons _ _ _ => exact hn.2.2 cur hv cur (List.mem_cons.2 (.inl rfl)) rfl
theorem in_any (n lo hi : Int) (w : World) :
    Calls Try.prog 36 #[.int .i64 n, .int .i64 lo, .int .i64 hi] w fun e w' => e = .returned (.bool (inB n lo hi)) ∧ w = w' := by
 by_cases h1 : lo ≤ n
 ·by_cases h2 : n ≤ hi
  ·have hI : Hid (inB n lo hi = true) := inB_t ⟨h1, h2⟩
   go_enter Try.func36, Try.ntmps36
   go_wp2
   go_ret
   exact ⟨ret_bool hI.out.symm, rfl⟩
  ·have hI : Hid (inB n lo hi = false) := inB_f (by omega)
   go_enter Try.func36, Try.ntmps36
   go_wp2
   go_ret
   exact ⟨ret_bool hI.out.symm, rfl⟩
 ·have hI : Hid (inB n lo hi = false) := inB_f (by omega)
  go_enter Try.func36, Try.ntmps36
  go_wp2
  go_ret
  exact ⟨ret_bool hI.out.symm, rfl⟩
theorem there_any (ao : Option Addr) (len cap : Nat) (i n : Int) (hr : len * 8 ≤ 140737488351232) (w : World) :
    Calls Try.prog 70 #[.slice ao len cap, .int .i64 i, .int .i64 n] w fun e w' => e = .returned (.bool (thereB len i n)) ∧ w = w' := by
 by_cases h1 : 0 ≤ i ∧ i ≤ len
 ·by_cases h2 : 0 ≤ n ∧ n ≤ len
  ·have e1 : inB i 0 len = true := inB_t h1
   have e2 : inB n 0 len = true := inB_t h2
   obtain ⟨p1, p2⟩ := h1
   obtain ⟨p3, p4⟩ := h2
   by_cases h3 : i + n ≤ len
   ·have hI : Hid (thereB len i n = true) := thereB_t (by omega)
    go_enter Try.func70, Try.ntmps70
    go_wp2_with (go_at_call 36; refine (in_any _ _ _ _).mono ?_; rintro e w' ⟨rfl, rfl⟩)
    go_ret
    exact ⟨ret_bool hI.out.symm, rfl⟩
   ·have hI : Hid (thereB len i n = false) := thereB_f (by omega)
    go_enter Try.func70, Try.ntmps70
    go_wp2_with (go_at_call 36; refine (in_any _ _ _ _).mono ?_; rintro e w' ⟨rfl, rfl⟩)
    go_ret
    exact ⟨ret_bool (by rw [hI.out]; exact decide_eq_false (by omega)), rfl⟩
  ·have e1 : inB i 0 len = true := inB_t h1
   have e2 : inB n 0 len = false := inB_f h2
   have hI : Hid (thereB len i n = false) := thereB_f (by omega)
   clear h2 h1
   go_enter Try.func70, Try.ntmps70
   go_wp2_with (go_at_call 36; refine (in_any _ _ _ _).mono ?_; rintro e w' ⟨rfl, rfl⟩)
   go_ret
   exact ⟨ret_bool hI.out.symm, rfl⟩
 ·have e1 : inB i 0 len = false := inB_f h1
  have hI : Hid (thereB len i n = false) := thereB_f (by omega)
  clear h1
  go_enter Try.func70, Try.ntmps70
  go_wp2_with (go_at_call 36; refine (in_any _ _ _ _).mono ?_; rintro e w' ⟨rfl, rfl⟩)
  go_ret
  exact ⟨ret_bool hI.out.symm, rfl⟩
theorem c_iff {g : FuncId} {args : Array Value} {w : World} {p : Prop} [Decidable p] (h : Calls Try.prog g args w fun e w' => RetIff e p ∧ Below w.heap.size w w') : Calls Try.prog g args w fun e w' => e = .returned (.bool (decide p)) ∧ Below w.heap.size w w' := by
 refine h.mono ?_
 rintro e w' ⟨⟨r, rfl, hr⟩, hb⟩
 refine ⟨?_, hb⟩
 congr 2
 cases r with
 | true => exact (decide_eq_true (hr.1 rfl)).symm
 | false => exact (decide_eq_false (fun hp => by have := hr.2 hp; cases this)).symm
theorem c_same {g : FuncId} {args : Array Value} {w : World} {v : Value} (h : Calls Try.prog g args w fun e w' => e = .returned v ∧ w = w') : Calls Try.prog g args w fun e w' => e = .returned v ∧ Below w.heap.size w w' := by
 refine h.mono ?_
 rintro e w' ⟨rfl, rfl⟩
 exact ⟨rfl, Below.refl _ _⟩
theorem there1_c (ao : Option Addr) (n cap : Nat) (i : Int) (hr : n * 8 ≤ 140737488351232) (w : World) :
    Calls Try.prog 70 #[.slice ao n cap, .int .i64 i, .int .i64 1] w fun e w' => e = .returned (.bool (decide (0 ≤ i ∧ i < n))) ∧ Below w.heap.size w w' := by
 have h := c_same (there_any ao n cap i 1 hr w)
 have e : thereB n i 1 = decide (0 ≤ i ∧ i < n) := by
  by_cases h : 0 ≤ i ∧ i < n
  ·rw [decide_eq_true h]; exact thereB_t (by omega)
  ·rw [decide_eq_false h]; exact thereB_f (by omega)
 rwa [e] at h
def seenRow (n : Nat) (v : List Int) : List Value := (List.range n).map fun (i : Nat) => .bool (decide ((i : Int) ∈ v))
theorem seenRow_nil (n : Nat) : seenRow n [] = List.replicate n (.bool false) := by
 unfold seenRow
 apply List.ext_getElem
 ·simp
 ·intro i h1 h2
  simp
theorem length_seenRow (n : Nat) (v : List Int) : (seenRow n v).length = n := by simp [seenRow]
theorem seen_at {n i : Nat} {v : List Int} (hi : i < n) : (seenRow n v)[0 + i * 1]? = some (.bool (decide ((i : Int) ∈ v))) := by
 rw [Nat.zero_add, Nat.mul_one]
 simp [seenRow, hi]
theorem seenRow_set {n i : Nat} {v : List Int} : (seenRow n v).set i (.bool true) = seenRow n (v ++ [(i : Int)]) := by
 apply List.ext_getElem
 ·simp [seenRow]
 ·intro j h1 h2
  simp only [seenRow, List.getElem_set, List.getElem_map, List.getElem_range, List.mem_append, List.mem_singleton]
  by_cases e : i = j
  ·subst e; simp
  ·rw [if_neg e]
   congr 1
   rw [decide_eq_decide]
   constructor
   ·exact .inl
   ·rintro (h | h)
    ·exact h
    ·omega
theorem setL_one : ∀ (cs : List Value) (i : Nat) (v : Value), i < cs.length → setL cs i [v] = cs.set i v
 | [], i, v, h => by simp at h
 | c :: cs, 0, v, h => by simp [setL, over]
 | c :: cs, i + 1, v, h => by simp [setL, setL_one cs i v (by simpa using h)]
theorem seen_set {n : Nat} {v : List Int} {a : Int} (h0 : 0 ≤ a) (h1 : a.toNat < n) : setL (seenRow n v) (0 + a.toNat * 1) (Value.bool true).cells.toList = seenRow n (v ++ [a]) := by
 obtain ⟨i, rfl⟩ := Int.eq_ofNat_of_zero_le h0
 rw [Nat.zero_add, Nat.mul_one, ← seenRow_set]
 exact setL_one _ _ _ (by rw [length_seenRow]; exact h1)
theorem followOf_any (w : World) (ao : Option Addr) (n cap : Nat) (a most : Int) (xs : List Int) (hn : xs.length = n) (hr : n * 8 ≤ 140737488351232) (h4 : most ≤ 1000000) (hx : IntsAt w ao xs) :
    Calls Try.prog 52 #[.slice ao n cap, .int .i64 a, .int .i64 most] w fun e w' => (∃ lo ln lc er, e = .returned (.tuple #[.slice lo ln lc, .int .i64 er]) ∧ ((er ≠ 0 ∧ ln = 0 ∧ ∀ l, Chain xs a l → (l.length : Int) ≤ most → False) ∨ ∃ l : List Int, er = 0 ∧ Nums w' lo ln l ∧ Chain xs a l ∧ (l.length : Int) ≤ max most 0)) ∧ Below w.heap.size w w' := by
 have B0 := Below.refl w.heap.size w
 refine sx_enter (args := [_, _, _]) 43 Try.func52 rfl rfl rfl ?_
 intro A f
 refine wp_seq ?_
 refine sx_list ?_
 refine l_do f rfl rfl rfl (y_assign rfl rfl) ?_; clear f A; intro A f
 refine l_do f rfl rfl rfl (y_assign rfl rfl) ?_; clear f A; intro A f
 refine wpList_nil ?_
 refine x_tn ?_
 refine wp_seq ?_
 refine sx_list ?_
 refine l_do f rfl rfl rfl (y_move rfl rfl) ?_; clear f A; intro A f
 refine l_do f rfl rfl rfl (y_len rfl rfl (sl rfl)) ?_; clear f A; intro A f
 refine l_mkBools f rfl rfl rfl rfl rfl rfl hr ?_; clear f A; intro b1 W2 eb1 hb3 rb1 A f
 have z_b1 := B0.size; rw [eb1] at z_b1
 replace B0 := Below.next B0 hb3
 refine l_do f rfl rfl rfl (y_assign rfl rfl) ?_; clear f A; intro A f
 refine wpList_nil ?_
 refine x_tn ?_
 refine wp_seq ?_
 refine sx_list ?_
 refine l_do f rfl rfl rfl (y_assign rfl rfl) ?_; clear f A; intro A f
 refine wpList_nil ?_
 refine x_tn ?_
 refine wp_seq ?_
 refine wp_block ?_
 have lb := row_lt rb1
 have hs0 : seenRow n [] = List.replicate n (.bool false) := seenRow_nil n
 rw [← hs0] at rb1
 obtain ⟨sb, hsb⟩ : ∃ sb, sb = b1 + 1 := ⟨_, rfl⟩
 have hsw : sb ≤ W2.heap.size := by omega
 refine x_loop (fun m A W => ∃ (v : List Int) (cur : Int) (vo : Option Addr) (vc : Nat), m = most.toNat - v.length ∧ Fr A 43 [(0, .slice ao n cap), (1, .int .i64 cur), (2, .int .i64 most), (8, .slice (some ⟨b1, 0, none⟩) n n), (9, .slice vo v.length vc)] ∧ Below w.heap.size w W ∧ W.heap[b1]? = some (.cells (seenRow n v).toArray 4 (0, 0)) ∧ W.ownsRow sb 3 1 (.slice vo v.length vc) v.length (vals v) ∧ sb ≤ W.heap.size ∧ FoI xs a v cur ∧ (v.length : Int) ≤ max most 0) (n0 := most.toNat) (⟨[], a, none, 0, by simp, f.sub ⟨rfl, rfl, rfl, rfl, rfl, trivial⟩, B0, rb1, World.ownsRow_nil _ _ _ _, hsw, FoI.start xs a, by simp; omega⟩) ?_
 clear f A
 clear B0 rb1 hs0
 rintro m A W4 ⟨v, cur, vo, vc, hm, f, B0, rb1, own, hsw, hI, hvm⟩
 have lb2 := row_lt rb1
 have hg : ∀ q ∈ blkA vo, sb ≤ q := fun q hq => (owns_lt own hq).1
 refine wp_seq ?_
 refine wp_seq ?_
 refine sx_list ?_
 refine l_do f rfl rfl rfl (y_move rfl rfl) ?_; clear f A; intro A f
 refine l_if _ f rfl rfl rfl (y_neq rfl rfl rfl) ?_ ?_
 ·clear f A; intro c5 A f
  refine wpList_nil ?_
  refine x_tn ?_
  refine x_condT f rfl ?_
  refine wp_skip ?_
  refine x_tn ?_
  refine wp_block ?_
  refine wp_seq ?_
  refine wp_seq ?_
  refine sx_list ?_
  refine l_do f rfl rfl rfl (y_move rfl rfl) ?_; clear f A; intro A f
  refine l_do f rfl rfl rfl (y_len rfl rfl (sl rfl)) ?_; clear f A; intro A f
  refine l_do f rfl rfl rfl (y_move rfl rfl) ?_; clear f A; intro A f
  refine l_if _ f rfl rfl rfl (y_geq rfl rfl rfl) ?_ ?_
  ·clear f A; intro c6 A f
   refine l_do f rfl rfl rfl (y_move rfl rfl) ?_; clear f A; intro A f
   refine l_no f rfl rfl rfl ?_; clear f A; intro A f
   refine l_no f rfl rfl rfl ?_; clear f A; intro A f
   refine l_no f rfl rfl rfl ?_; clear f A; intro A f
   refine l_no f rfl rfl rfl ?_; clear f A; intro A f
   refine l_do f rfl rfl rfl (y_pick rfl rfl rfl) ?_; clear f A; intro A f
   refine l_do f rfl rfl rfl (y_move rfl rfl) ?_; clear f A; intro A f
   refine l_no f rfl rfl rfl ?_; clear f A; intro A f
   refine l_no f rfl rfl rfl ?_; clear f A; intro A f
   refine l_no f rfl rfl rfl ?_; clear f A; intro A f
   refine l_no f rfl rfl rfl ?_; clear f A; intro A f
   refine l_do f rfl rfl rfl (y_pick rfl rfl rfl) ?_; clear f A; intro A f
   refine wpList_nil ?_
   refine x_tn ?_
   refine x_condT f rfl ?_
   refine wp_seq ?_
   refine sx_list ?_
   refine l_do f rfl rfl rfl (y_assign rfl rfl) ?_; clear f A; intro A f
   refine l_do f rfl rfl rfl (y_assign rfl rfl) ?_; clear f A; intro A f
   refine wpList_nil ?_
   refine x_tn ?_
   refine wp_ret ?_
   refine x_tr ?_
   refine x_br ?_
   refine x_tr ?_
   refine x_br ?_
   refine x_tr ?_
   refine x_ret2 f rfl rfl rfl ?_
   exact ⟨⟨_, _, _, _, rfl, .inl ⟨by decide, rfl, fun l hl hlm => hI.long (most := most) ⟨by omega, by omega⟩ hl hlm⟩⟩, B0⟩
  ·clear f A; intro c6 A f
   refine l_do f rfl rfl rfl (y_move rfl rfl) ?_; clear f A; intro A f
   refine l_do f rfl rfl rfl (y_move rfl rfl) ?_; clear f A; intro A f
   refine l_do f rfl rfl rfl (y_move rfl rfl) ?_; clear f A; intro A f
   refine l_callif _ f rfl rfl rfl (IsCall.mk' (cap := []) rfl rfl rfl) (pl rfl) (there1_c ao n cap cur hr _) ?_ ?_
   ·clear f A; intro c7 W9 hb8 A f
    replace own := owns_below own hb8 (Nat.le_refl _); replace rb1 := row_next rb1 hb8; replace hsw := Nat.le_trans hsw hb8.size
    replace B0 := Below.next B0 hb8
    have hfull : 0 ≤ cur ∧ cur < xs.length := by omega
    refine l_do f rfl rfl rfl (y_not rfl rfl) ?_; clear f A; intro A f
    refine l_do f rfl rfl rfl (y_pick rfl rfl rfl) ?_; clear f A; intro A f
    refine l_do f rfl rfl rfl (y_move rfl rfl) ?_; clear f A; intro A f
    refine l_do f rfl rfl rfl (y_move rfl rfl) ?_; clear f A; intro A f
    refine l_do f rfl rfl rfl (y_move rfl rfl) ?_; clear f A; intro A f
    refine l_do f rfl rfl rfl (y_indexI rfl rfl rfl rfl (es rfl) (by omega) (by omega)) ?_; clear f A; intro A f
    refine l_if _ f rfl rfl rfl (y_load1 rfl rfl (ag rfl) (rowl (rowq rb1) (seen_at (show cur.toNat < n by omega)))) ?_ ?_
    ·clear f A; intro c10 A f
     rw [Int.toNat_of_nonneg (by omega)] at c10
     refine l_do f rfl rfl rfl (y_pick rfl rfl rfl) ?_; clear f A; intro A f
     refine wpList_nil ?_
     refine x_tn ?_
     refine x_condT f rfl ?_
     refine wp_seq ?_
     refine sx_list ?_
     refine l_do f rfl rfl rfl (y_assign rfl rfl) ?_; clear f A; intro A f
     refine l_do f rfl rfl rfl (y_assign rfl rfl) ?_; clear f A; intro A f
     refine wpList_nil ?_
     refine x_tn ?_
     refine wp_ret ?_
     refine x_tr ?_
     refine x_br ?_
     refine x_tr ?_
     refine x_br ?_
     refine x_tr ?_
     refine x_ret2 f rfl rfl rfl ?_
     exact ⟨⟨_, _, _, _, rfl, .inl ⟨by decide, rfl, fun l hl _ => hI.twice c10 hl⟩⟩, B0⟩
    ·clear f A; intro c10 A f
     rw [Int.toNat_of_nonneg (by omega)] at c10
     refine l_do f rfl rfl rfl (y_pick rfl rfl rfl) ?_; clear f A; intro A f
     refine wpList_nil ?_
     refine x_tn ?_
     refine x_condF f rfl ?_
     refine wp_skip ?_
     refine x_tn ?_
     refine wp_seq ?_
     refine sx_list ?_
     refine l_do f rfl rfl rfl (y_move rfl rfl) ?_; clear f A; intro A f
     refine l_do f rfl rfl rfl (y_move rfl rfl) ?_; clear f A; intro A f
     refine l_do f rfl rfl rfl (y_indexI rfl rfl rfl rfl (es rfl) (by omega) (by omega)) ?_; clear f A; intro A f
     refine l_store f rfl rfl rfl rfl rfl rb1 (sz rfl) rfl (by rw [length_seenRow]; omega) rfl ?_; clear rb1; intro W11 hb12 rb1; rw [seen_set (by omega) (by omega)] at rb1
     replace own := owns_butL own hb12 (fun h => by have := hg _ h; omega); replace hsw := Nat.le_trans hsw hb12.size; replace B0 := Below.thenBut B0 hb12 (by omega)
     refine wpList_nil ?_
     refine x_tn ?_
     refine wp_seq ?_
     refine sx_list ?_
     refine l_do f rfl rfl rfl (y_move rfl rfl) ?_; clear f A; intro A f
     refine l_do f rfl rfl rfl (y_move rfl rfl) ?_; clear f A; intro A f
     refine l_bs1 f rfl rfl rfl rfl rfl (bs_int1 cur) ?_; clear f A; intro g13 W14 eg13 hb15 rg13 A f
     replace own := owns_below own hb15 (Nat.le_refl _); replace rb1 := row_next rb1 hb15; replace hsw := Nat.le_trans hsw hb15.size
     replace B0 := Below.next B0 hb15
     refine l_ap1 f rfl rfl rfl rfl rfl rfl Try.underlying22 info_int rfl own rg13 rfl (by omega) hsw ?_; clear f A; intro g16 k17 W18 own hb19 hgn A f
     replace rb1 := hb19.row rb1 (fun h => by have := hg _ h; omega); replace hsw := Nat.le_trans hsw hb19.size; replace B0 := hb19.below B0 B0.size (fun q hq => by have := hg q hq; omega)
     refine l_do f rfl rfl rfl (y_assign rfl rfl) ?_; clear f A; intro A f
     refine wpList_nil ?_
     refine x_tn ?_
     refine sx_list ?_
     refine l_do f rfl rfl rfl (y_move rfl rfl) ?_; clear f A; intro A f
     refine l_do f rfl rfl rfl (y_move rfl rfl) ?_; clear f A; intro A f
     obtain ⟨gx, ox, hax, q1⟩ := hx cur.toNat (by omega)
     replace q1 := St.of q1
     rw [show ox + cur.toNat = ox + cur.toNat * 1 by omega] at q1
     refine l_do f rfl rfl rfl (y_indexI rfl rfl (by assumption) rfl (es rfl) (by omega) (by omega)) ?_; clear f A; intro A f
     refine l_do f rfl rfl rfl (y_load1 rfl rfl (ag rfl) (by first | assumption | exact St.q q1 B0)) ?_; clear f A; intro A f
     refine l_do f rfl rfl rfl (y_assign rfl rfl) ?_; clear f A; intro A f
     refine wpList_nil ?_
     refine x_bn ?_
     refine x_tn ?_
     exact ⟨most.toNat - (v ++ [cur]).length, by simp; omega, v ++ [cur], xs.getD cur.toNat 0, some ⟨g16, 0, none⟩, k17, rfl, by rw [show (v ++ [cur]).length = v.length + 1 by simp]; exact f.sub ⟨rfl, rfl, rfl, rfl, rfl, trivial⟩, B0, rb1, by rw [show (v ++ [cur]).length = v.length + 1 by simp, vals_append]; exact own, hsw, hI.step hfull c10, by rw [show (v ++ [cur]).length = v.length + 1 by simp]; omega⟩
   ·clear f A; intro c7 W9 hb8 A f
    replace own := owns_below own hb8 (Nat.le_refl _); replace rb1 := row_next rb1 hb8; replace hsw := Nat.le_trans hsw hb8.size
    replace B0 := Below.next B0 hb8
    refine l_do f rfl rfl rfl (y_not rfl rfl) ?_; clear f A; intro A f
    refine l_do f rfl rfl rfl (y_pick rfl rfl rfl) ?_; clear f A; intro A f
    refine l_do f rfl rfl rfl (y_move rfl rfl) ?_; clear f A; intro A f
    refine l_no f rfl rfl rfl ?_; clear f A; intro A f
    refine l_no f rfl rfl rfl ?_; clear f A; intro A f
    refine l_no f rfl rfl rfl ?_; clear f A; intro A f
    refine l_no f rfl rfl rfl ?_; clear f A; intro A f
    refine l_do f rfl rfl rfl (y_pick rfl rfl rfl) ?_; clear f A; intro A f
    refine wpList_nil ?_
    refine x_tn ?_
    refine x_condT f rfl ?_
    refine wp_seq ?_
    refine sx_list ?_
    refine l_do f rfl rfl rfl (y_assign rfl rfl) ?_; clear f A; intro A f
    refine l_do f rfl rfl rfl (y_assign rfl rfl) ?_; clear f A; intro A f
    refine wpList_nil ?_
    refine x_tn ?_
    refine wp_ret ?_
    refine x_tr ?_
    refine x_br ?_
    refine x_tr ?_
    refine x_br ?_
    refine x_tr ?_
    refine x_ret2 f rfl rfl rfl ?_
    exact ⟨⟨_, _, _, _, rfl, .inl ⟨by decide, rfl, fun l hl _ => hI.out (by omega) (by omega) hl⟩⟩, B0⟩
 ·clear f A; intro c5 A f
  refine wpList_nil ?_
  refine x_tn ?_
  refine x_condF f rfl ?_
  refine wp_exit ?_
  refine x_te ?_
  refine x_te ?_
  refine x_bh ?_
  refine x_tn ?_
  refine wp_seq ?_
  refine sx_list ?_
  refine l_do f rfl rfl rfl (y_move rfl rfl) ?_; clear f A; intro A f
  refine l_do f rfl rfl rfl (y_assign rfl rfl) ?_; clear f A; intro A f
  refine l_do f rfl rfl rfl (y_assign rfl rfl) ?_; clear f A; intro A f
  refine wpList_nil ?_
  refine x_tn ?_
  refine wp_ret ?_
  refine x_ret2 f rfl rfl rfl ?_
  have hce : cur = -1 := by omega
  subst hce
  exact ⟨⟨_, _, _, _, rfl, .inr ⟨v, rfl, nums_of_owns own (by omega), hI.done, by omega⟩⟩, B0⟩
end Go.Proofs.Ytnijjpakpphhhaa
namespace Go.Proofs.Ytnijjpakpphhhaa.Kit
open Go Go.RowKit
def layO (s : Int) : Int := if s ≤ 4 then 0 else if s ≤ 8 then 1 else 2
def layN (s : Int) : Int := (if s ≤ 4 then 16 else if s ≤ 8 then 32 else 64) / s
theorem tdiv_pos (a s : Int) (ha : 0 ≤ a) : a.tdiv s = a / s := Int.tdiv_eq_ediv_of_nonneg ha
theorem div_ge_four (a s : Int) (hs : 0 < s) (h : 4 * s ≤ a) : 4 ≤ a / s := (Int.le_ediv_iff_mul_le hs).2 h
theorem div_lt_four (a s : Int) (hs : 0 < s) (h : a < 4 * s) : a / s < 4 := (Int.ediv_lt_iff_lt_mul hs).2 h
theorem div_range (a s : Int) (hs : 0 < s) (ha : 0 ≤ a) (hb : a ≤ 64) : 0 ≤ a / s ∧ a / s ≤ 64 :=
 ⟨Int.ediv_nonneg ha (by omega), Int.le_trans (Int.ediv_le_self s ha) hb⟩
def ovlP (l : List Bk) (a o : Int) : Prop := ∃ i, i < l.length ∧ (l.getD i .zero).a < a + pw o ∧ a < (l.getD i .zero).a + pw (l.getD i .zero).o
def ovl1 (E a : Int) (b : Bk) : Bool := decide (b.a < E ∧ a < b.a + pw b.o)
theorem ovl_any (l : List Bk) (a o : Int) : l.any (ovl1 (a + pw o) a) = true ↔ ovlP l a o := by
 rw [List.any_eq_true]
 constructor
 ·rintro ⟨x, hx, h⟩
  obtain ⟨i, hi, rfl⟩ := List.getElem_of_mem hx
  have := of_decide_eq_true h
  refine ⟨i, hi, ?_⟩
  rw [List.getD_eq_getElem?_getD, List.getElem?_eq_getElem hi]
  exact this
 ·rintro ⟨i, hi, h⟩
  rw [List.getD_eq_getElem?_getD, List.getElem?_eq_getElem hi] at h
  exact ⟨l[i], List.getElem_mem _, decide_eq_true h⟩
def pgB (p : Int) : Bk := ⟨p, 0, 0⟩
def Apt (P l : List Bk) : Prop := ∀ k, k < l.length → ¬ ovlP (P ++ l.take k) (l.getD k .zero).a (l.getD k .zero).o
theorem getD_append_left {α : Type} (l m : List α) (k : Nat) (d : α) (h : k < l.length) : (l ++ m).getD k d = l.getD k d := by
 simp [List.getD_eq_getElem?_getD, List.getElem?_append_left h]
theorem getD_append_right {α : Type} (l m : List α) (k : Nat) (d : α) : (l ++ m).getD (l.length + k) d = m.getD k d := by
 simp [List.getD_eq_getElem?_getD, List.getElem?_append_right]
theorem apt_nil (P : List Bk) : Apt P [] := fun k hk => absurd hk (by simp)
theorem apt_append (P l m : List Bk) : Apt P (l ++ m) ↔ Apt P l ∧ Apt (P ++ l) m := by
 constructor
 ·intro h
  refine ⟨fun k hk => ?_, fun k hk => ?_⟩
  ·have := h k (by simp; omega)
   rwa [getD_append_left _ _ _ _ hk, List.take_append_of_le_length (by omega)] at this
  ·have := h (l.length + k) (by simp; omega)
   rw [getD_append_right, List.take_append] at this
   rw [List.take_of_length_le (by omega), show l.length + k - l.length = k by omega, ← List.append_assoc] at this
   exact this
 ·rintro ⟨h1, h2⟩ k hk
  by_cases hlt : k < l.length
  ·rw [getD_append_left _ _ _ _ hlt, List.take_append_of_le_length (by omega)]
   exact h1 k hlt
  ·obtain ⟨j, rfl⟩ : ∃ j, k = l.length + j := ⟨k - l.length, by omega⟩
   rw [getD_append_right, List.take_append, List.take_of_length_le (by omega), show l.length + j - l.length = j by omega, ← List.append_assoc]
   exact h2 j (by simp at hk; omega)
theorem apt_one (P : List Bk) (b : Bk) : Apt P [b] ↔ ¬ ovlP P b.a b.o := by
 constructor
 ·intro h
  have := h 0 (by simp)
  simpa using this
 ·intro h k hk
  obtain rfl : k = 0 := by simp at hk; omega
  simpa using h
theorem apt_take_succ (P l : List Bk) (k : Nat) (hk : k < l.length) : Apt P (l.take (k + 1)) ↔ Apt P (l.take k) ∧ ¬ ovlP (P ++ l.take k) (l.getD k .zero).a (l.getD k .zero).o := by
 rw [take_getD l k hk rfl, apt_append, apt_one]
theorem apt_take {P l : List Bk} (h : Apt P l) (k : Nat) : Apt P (l.take k) := by
 have := (List.take_append_drop k l).symm
 rw [this, apt_append] at h
 exact h.1
def cov (P : List Bk) (p : Int) : Bool := P.any fun b => decide (b.a ≤ p ∧ p < b.a + pw b.o)
theorem cov_append (P Q : List Bk) (p : Int) : cov (P ++ Q) p = (cov P p || cov Q p) := by simp [cov]
theorem cov_one (b : Bk) (p : Int) : cov [b] p = decide (b.a ≤ p ∧ p < b.a + pw b.o) := by simp [cov]
theorem ovlP_mem (P : List Bk) (a o : Int) : ovlP P a o ↔ ∃ b ∈ P, b.a < a + pw o ∧ a < b.a + pw b.o := by
 constructor
 ·rintro ⟨i, hi, h⟩
  exact ⟨_, getD_mem (d := Bk.zero) hi, h⟩
 ·rintro ⟨b, hb, h⟩
  obtain ⟨i, hi, rfl⟩ := List.getElem_of_mem hb
  refine ⟨i, hi, ?_⟩
  rw [List.getD_eq_getElem?_getD, List.getElem?_eq_getElem hi]
  exact h
theorem cov_ovl (P : List Bk) (a o : Int) : (∃ p, a ≤ p ∧ p < a + pw o ∧ cov P p = true) ↔ ovlP P a o := by
 rw [ovlP_mem]
 constructor
 ·rintro ⟨p, h1, h2, h3⟩
  obtain ⟨b, hb, hd⟩ := List.any_eq_true.1 h3
  have := of_decide_eq_true hd
  exact ⟨b, hb, by omega, by omega⟩
 ·rintro ⟨b, hb, h1, h2⟩
  have p1 := pw_pos o
  have p2 := pw_pos b.o
  by_cases h : a ≤ b.a
  ·exact ⟨b.a, h, h1, List.any_eq_true.2 ⟨b, hb, decide_eq_true (by omega)⟩⟩
  ·exact ⟨a, by omega, by omega, List.any_eq_true.2 ⟨b, hb, decide_eq_true (by omega)⟩⟩
def placed (H : Hp) : List Bk := H.zones.flatMap (·.free) ++ (H.lists.flatMap (fun l => l.pages.map pgB) ++ H.live)
def aheadL (a b : Ls) : Prop := a.c < b.c ∨ a.c = b.c ∧ (a.z < b.z ∨ a.z = b.z ∧ a.t < b.t)
structure LsOk (H : Hp) (l : Ls) : Prop where
 c : 0 ≤ l.c ∧ l.c < H.cpus
 z : 0 ≤ l.z ∧ l.z < 2
 t : typeOk l.t
 n : 1 ≤ l.pages.length ∧ l.pages.length ≤ 8
 p : ∀ i, i < l.pages.length → (H.zones.getD l.z.toNat ⟨0, 0, [], []⟩).f ≤ l.pages.getD i 0 ∧ l.pages.getD i 0 < (H.zones.getD l.z.toNat ⟨0, 0, [], []⟩).t
def Ls.zero : Ls := ⟨0, 0, 0, []⟩
structure LvOk (b : Bk) : Prop where
 o : ordOk b.o
 a : 0 ≤ b.a ∧ b.a < 256
 m : b.a % pw b.o = 0
 t : typeOk b.t
def Zn.zero : Zn := ⟨0, 0, [], []⟩
structure ZsOk (H : Hp) : Prop where
 n : H.zones.length = 2
 m0 : ZMay (H.zones.getD 0 ⟨0, 0, [], []⟩)
 m1 : ZMay (H.zones.getD 1 ⟨0, 0, [], []⟩)
 f0 : (H.zones.getD 0 ⟨0, 0, [], []⟩).f = 0
 f1 : (H.zones.getD 1 ⟨0, 0, [], []⟩).f = (H.zones.getD 0 ⟨0, 0, [], []⟩).t
 t1 : (H.zones.getD 1 ⟨0, 0, [], []⟩).t = 256
structure MnOk (H : Hp) : Prop where
 n : H.mins.length = 2
 a : 0 ≤ H.mins.getD 0 0 ∧ H.mins.getD 0 0 ≤ 256
 b : 0 ≤ H.mins.getD 1 0 ∧ H.mins.getD 1 0 ≤ 256
structure LssOk (H : Hp) : Prop where
 ok : ∀ i, i < H.lists.length → LsOk H (H.lists.getD i .zero)
 ord : ∀ i, 0 < i → i < H.lists.length → aheadL (H.lists.getD (i - 1) .zero) (H.lists.getD i .zero)
structure LvsOk (l : List Bk) : Prop where
 ok : ∀ i, i < l.length → LvOk (l.getD i .zero)
 ord : ∀ i, 0 < i → i < l.length → (l.getD (i - 1) .zero).a < (l.getD i .zero).a
structure HMay (H : Hp) : Prop where
 zs : ZsOk H
 mn : MnOk H
 cpus : 1 ≤ H.cpus ∧ H.cpus ≤ 4
 ls : LssOk H
 lv : LvsOk H.live
 apart : Apt [] (placed H)
def InP (b : Bk) : Prop := ordOk b.o ∧ 0 ≤ b.a ∧ b.a + pw b.o ≤ 256
theorem LvOk.inP {b : Bk} (h : LvOk b) : InP b := by
 refine ⟨h.o, h.a.1, ?_⟩
 have h1 := h.m
 have h2 := h.a
 rcases (show b.o = 0 ∨ b.o = 1 ∨ b.o = 2 ∨ b.o = 3 ∨ b.o = 4 by have := h.o; unfold ordOk at this; omega) with e | e | e | e | e <;> rw [e] at h1 ⊢ <;> simp only [pw] at h1 ⊢ <;> (try simp only [show Int.toNat 0 = 0 by rfl, show Int.toNat 1 = 1 by rfl, show Int.toNat 2 = 2 by rfl, show Int.toNat 3 = 3 by rfl, show Int.toNat 4 = 4 by rfl, Nat.reducePow] at h1 ⊢) <;> omega
end Go.Proofs.Ytnijjpakpphhhaa.Kit
namespace Go.Proofs.Ytnijjpakpphhhaa
open Go Go.RowKit Go.Proofs.Ytnijjpakpphhhaa.Kit
def RetB (e : Ending) (p : Prop) : Prop := ∃ r : Bool, e = .returned (.bool r) ∧ (r = true ↔ p)
theorem RetB.of {e : Ending} {p : Prop} [Decidable p] (h : e = .returned (.bool (decide p))) : RetB e p := ⟨_, h, decide_eq_true_iff⟩
theorem RetB.iff {e : Ending} {p q : Prop} (h : RetB e p) (i : p ↔ q) : RetB e q := let ⟨r, a, b⟩ := h; ⟨r, a, b.trans i⟩
theorem retB_true {p : Prop} (h : p) : RetB (.returned (.bool true)) p := ⟨true, rfl, ⟨fun _ => h, fun _ => rfl⟩⟩
theorem retB_false {p : Prop} (h : ¬ p) : RetB (.returned (.bool false)) p := ⟨false, rfl, ⟨fun e => (by cases e), fun g => absurd g h⟩⟩
section
variable {P : Program} {A : Act} {N : Nat} {L : List (Nat × Value)} {l rest : List Oper} {o : Oper} {w : World}
theorem l_callB {Q : Exit → Act → World → Prop} {d : Nat} {g : FuncId} {args : List Value} (p : Prop) (f : Fr A N L) (hd : o.dst = some d) (hN : Nat.blt d N = true) (hw : wantB l L o = some true) (hc : IsCall L o g args) (hp : Plain P g)
    (hR : Calls P g args.toArray w fun e w' => RetB e p ∧ Below w.heap.size w w')
    (ht : p → ∀ W, Below w.heap.size w W → ∀ A', Fr A' N ((d, .bool true) :: L) → wpList P l.toArray Q rest A' W) (hf : ¬ p → ∀ W, Below w.heap.size w W → ∀ A', Fr A' N ((d, .bool false) :: L) → wpList P l.toArray Q rest A' W) : wpList P l.toArray Q (o :: rest) A w := by
 refine l_call f hd hN hw hc hp hR ?_
 rintro e W ⟨⟨r, rfl, hr⟩, hb⟩
 refine ⟨_, rfl, ?_⟩
 cases r with
 | true => exact ht (hr.1 rfl) W hb
 | false => exact hf (fun h => by cases hr.2 h) W hb
end
def byteOk (b : UInt8) : Prop := (97 ≤ b.toNat ∧ b.toNat ≤ 122) ∨ (48 ≤ b.toNat ∧ b.toNat ≤ 57)
structure NameOk (s : ByteArray) : Prop where
 lo : 1 ≤ s.size
 hi : s.size ≤ 8
 at_ : ∀ i, i < s.size → byteOk (s.data.getD i 0)
def strLe (a b : ByteArray) : Bool := Op.bytesLess a.toList b.toList || a.toList == b.toList
def Rise (l : List ByteArray) : Prop := ∀ k, k < l.length → 0 < k → strLe (l.getD k default) (l.getD (k - 1) default) = false
structure NamesMay (l : List Ch) : Prop where
 ok : ∀ c ∈ l, ∀ n ∈ c.names, NameOk n
 up : ∀ c ∈ l, Rise c.names
 dis : (l.flatMap (·.names)).Nodup
structure Unlike (l : List Ch) : Prop where
 size : (l.map (·.size)).Nodup
 at_ : (l.flatMap (fun c => c.slabs.map (·.a))).Nodup
def objAt (c : Ch) (b : Bk) (x : Int) : Prop := 16 * b.a ≤ x ∧ x - 16 * b.a < c.size * c.per ∧ (x - 16 * b.a) % c.size = 0
def ChainOk (words : List Int) (c : Ch) (b : Bk) : Prop := 0 ≤ b.o ∧ ∃ l, fol words (min b.o.toNat words.length) b.t = some l ∧ (l.length : Int) = b.o ∧ ∀ x ∈ l, objAt c b x
def IsLive (h : Hp) (c : Ch) (b : Bk) : Prop := ∃ v ∈ h.live, v.a = b.a ∧ v.o = c.order
def SlabsMay (words : List Int) (h : Hp) (c : Ch) : Prop := ∀ k, k < c.slabs.length → (0 < k → (c.slabs.getD (k - 1) .zero).a < (c.slabs.getD k .zero).a) ∧ IsLive h c (c.slabs.getD k .zero) ∧ ChainOk words c (c.slabs.getD k .zero)
def ActMay (cpus : Int) (c : Ch) : Prop := (c.act.length : Int) = cpus ∧ ∀ i, i < c.act.length → c.act.getD i 0 ≠ -1 → (∃ b ∈ c.slabs, b.a = c.act.getD i 0) ∧ ∀ k, k < i → c.act.getD k 0 ≠ c.act.getD i 0
structure ChMay (words : List Int) (h : Hp) (c : Ch) : Prop where
 size : 1 ≤ c.size ∧ c.size ≤ 64
 order : c.order = layO c.size
 per : c.per = layN c.size
 names : 0 < c.names.length
 slabs : SlabsMay words h c
 act : ActMay h.cpus c
structure SMay (s : Sp) : Prop where
 words : s.words.length = 4096
 heap : HMay s.h
 few : s.caches.length ≤ 20
 each : ∀ c ∈ s.caches, ChMay s.words s.h c
 names : NamesMay s.caches
 unlike : Unlike s.caches
end Go.Proofs.Ytnijjpakpphhhaa
