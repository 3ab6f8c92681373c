/-
  OWN TEXTS, bundled: ZcCopy, HcI, LDel.
-/
import Derived.Test.YtbjlbmofdnkmiaaPagesFreesPart2
import Derived.Test.YtbjlbmofdnkmiaaPagesFreesPart3
import Derived.Laws.MakeOwn

/-
  OWN TEXT. Contracts of the code: buddy.Copy.
-/
namespace Go.Proofs.Ytbjlbmofdnkmiaa
open Go Go.RowKit Go.Proofs.Ytbjlbmofdnkmiaa.Kit

theorem made_b {P : Program} {t e : TypeId} {i : TypeInfo} {z : Value} (ht : P.underlying t = some (.slice e)) (hi : P.info? e = some i) (hz : i.zero = some z) (n : Nat) (hb : i.bytes * n ≤ 281474976710656) (hm : n ≤ maxLen) :
    ∃ M : Array Value, M.size = n * i.size ∧ ∀ W : World, (Instr.makeSlice t (.int .i64 (n : Int)) (.int .i64 (n : Int))).run P W = .ok (.slice (some ⟨W.heap.size, 0, none⟩) n n) (W.alloc (.cells M e)) := by
  refine ⟨madeCells z.cells (n * i.size), size_madeCells _ _, fun W => ?_⟩
  have hr := run_make (P := P) W t e i z ht hi hz .i64 .i64 n n (by omega) (Int.le_refl _) (by
    have h : ((i.bytes * n : Nat) : Int) ≤ 281474976710656 := by omega
    rwa [Int.natCast_mul] at h) (by have h := hm; simp [maxLen] at h; omega)
  simpa using hr

theorem owns_of_row {w : World} {base : Nat} {e : TypeId} {g n size : Nat} {xs : List Value} (h : w.heap[g]? = some (.cells xs.toArray e (0, 0))) (hb : base ≤ g) (hl : xs.length = n * size) (hm : n ≤ maxLen) :
    w.ownsRow base e size (.slice (some ⟨g, 0, none⟩) n n) n xs :=
  ⟨hl, .inr ⟨g, n, _, rfl, hb, h, Nat.le_refl _, hm, by simpa using hl, by simpa using List.take_of_length_le (by omega)⟩⟩

theorem owns_but {w w' : World} {base : Nat} {e : TypeId} {g n cap size c : Nat} {xs : List Value} (h : w.ownsRow base e size (.slice (some ⟨g, 0, none⟩) n cap) n xs) (hb : But c w w') (hne : g ≠ c) :
    w'.ownsRow base e size (.slice (some ⟨g, 0, none⟩) n cap) n xs :=
  h.kept (row := some c) ⟨hb.os, hb.tape, hb.output, hb.size, fun k hk hne => hb.block k hk (by intro g; exact hne (by rw [g]))⟩ (.inr (by simp [Value.ownBlock]; exact hne))

/-- What is there in the midst of a copy: the zone that came in at b, the copy at x with its rows at g and k. -/
structure CpI (W0 : World) (zb : Nat) (f t : Int) (fo : Option Addr) (fn fc : Nat) (to_ : Option Addr) (tn tc : Nat) (x g k : Nat) (MB MT : Array Value) (W : World) : Prop where
  b : Below W0.heap.size W0 W
  zin : ZBox W zb (.int .i64 f) (.int .i64 t) (.slice fo fn fc) (.slice to_ tn tc)
  res : Res4 W (zb + 1)
  box : ZBox W x (.int .i64 f) (.int .i64 t) (.slice (some ⟨g, 0, none⟩) fn fn) (.slice (some ⟨k, 0, none⟩) tn tn)
  rg : W.heap[g]? = some (.cells MB 63 (0, 0))
  rk : W.heap[k]? = some (.cells MT 3 (0, 0))
  xg : x ≠ g
  xk : x ≠ k
  gk : g ≠ k
  x2 : zb + 2 ≤ x
  g2 : zb + 2 ≤ g
  k2 : zb + 2 ≤ k

theorem zbox_of_row {W : World} {x : Nat} {a b c d : Value} {t : TypeId} (h : W.heap[x]? = some (.cells #[a, b, c, d] t (0, 0))) : ZBox W x a b c d := by
  have hc : ∀ i : Nat, W.cell? ⟨x, i, none⟩ = (#[a, b, c, d] : Array Value)[i]? := fun i => by simp [World.cell?, h]
  have hf : ∀ i : Nat, W.frozen? ⟨x, i, none⟩ = false := fun i => by simp [World.frozen?, h]
  exact ⟨by rw [hc]; rfl, by rw [hc]; rfl, by rw [hc]; rfl, by rw [hc]; rfl, hf 0, hf 1, hf 2, hf 3⟩

theorem heap3 {W : World} {A B C : Obj} {n : Nat} (hs : W.heap.size = n) : ((((W.alloc A).alloc B).alloc C).drew).heap[n]? = some A ∧ ((((W.alloc A).alloc B).alloc C).drew).heap[n + 1]? = some B ∧ ((((W.alloc A).alloc B).alloc C).drew).heap[n + 1 + 1]? = some C := by
  subst hs
  show (((W.heap.push A).push B).push C)[W.heap.size]? = _ ∧ (((W.heap.push A).push B).push C)[W.heap.size + 1]? = _ ∧ (((W.heap.push A).push B).push C)[W.heap.size + 1 + 1]? = _
  refine ⟨?_, ?_, ?_⟩
  · rw [Array.getElem?_push, if_neg (by simp; omega), Array.getElem?_push, if_neg (by simp), Array.getElem?_push, if_pos rfl]
  · rw [Array.getElem?_push, if_neg (by simp), Array.getElem?_push, if_pos (by simp)]
  · rw [Array.getElem?_push, if_pos (by simp)]

section
variable {W0 : World} {b : Nat} {f t : Int} {fo : Option Addr} {fn fc : Nat} {to_ : Option Addr} {tn tc : Nat} {x g k : Nat} {MB MT : Array Value} {W W' : World}
theorem cpI_of (Z0 : ZBox W0 b (.int .i64 f) (.int .i64 t) (.slice fo fn fc) (.slice to_ tn tc)) (R0 : Res4 W0 (b + 1)) (hb : Below W0.heap.size W0 W)
    (hx : W.heap[x]? = some (.cells #[.int .i64 f, .int .i64 t, .slice (some ⟨g, 0, none⟩) fn fn, .slice (some ⟨k, 0, none⟩) tn tn] 44 (0, 0)))
    (hg : W.heap[g]? = some (.cells MB 63 (0, 0))) (hk : W.heap[k]? = some (.cells MT 3 (0, 0))) (xg : x ≠ g) (xk : x ≠ k) (gk : g ≠ k) (x2 : b + 2 ≤ x) (g2 : b + 2 ≤ g) (k2 : b + 2 ≤ k) : CpI W0 b f t fo fn fc to_ tn tc x g k MB MT W :=
  ⟨hb, Z0.below hb, R0.below hb, zbox_of_row hx, hg, hk, xg, xk, gk, x2, g2, k2⟩
theorem cpI_423 (Z0 : ZBox W0 b (.int .i64 f) (.int .i64 t) (.slice fo fn fc) (.slice to_ tn tc)) (R0 : Res4 W0 (b + 1)) (hs : W0.heap.size = b + 2) :
    CpI W0 b f t fo fn fc to_ tn tc (b + 2 + 1 + 1) (b + 2) (b + 2 + 1) MB MT ((((W0.alloc (.cells MB 63)).alloc (.cells MT 3)).alloc (.cells #[.int .i64 f, .int .i64 t, .slice (some ⟨b + 2, 0, none⟩) fn fn, .slice (some ⟨b + 2 + 1, 0, none⟩) tn tn] 44)).drew) :=
  cpI_of Z0 R0 (((((Below.refl _ _).alloc (Nat.le_refl _) _).alloc (by simp) _).alloc (by simp; omega) _).drew) (heap3 hs).2.2 (heap3 hs).1 (heap3 hs).2.1 (by omega) (by omega) (by omega) (by omega) (by omega) (by omega)
theorem cpI_324 (Z0 : ZBox W0 b (.int .i64 f) (.int .i64 t) (.slice fo fn fc) (.slice to_ tn tc)) (R0 : Res4 W0 (b + 1)) (hs : W0.heap.size = b + 2) :
    CpI W0 b f t fo fn fc to_ tn tc (b + 2 + 1) (b + 2) (b + 2 + 1 + 1) MB MT ((((W0.alloc (.cells MB 63)).alloc (.cells #[.int .i64 f, .int .i64 t, .slice (some ⟨b + 2, 0, none⟩) fn fn, .slice (some ⟨b + 2 + 1 + 1, 0, none⟩) tn tn] 44)).alloc (.cells MT 3)).drew) :=
  cpI_of Z0 R0 (((((Below.refl _ _).alloc (Nat.le_refl _) _).alloc (by simp) _).alloc (by simp; omega) _).drew) (heap3 hs).2.1 (heap3 hs).1 (heap3 hs).2.2 (by omega) (by omega) (by omega) (by omega) (by omega) (by omega)
theorem cpI_432 (Z0 : ZBox W0 b (.int .i64 f) (.int .i64 t) (.slice fo fn fc) (.slice to_ tn tc)) (R0 : Res4 W0 (b + 1)) (hs : W0.heap.size = b + 2) :
    CpI W0 b f t fo fn fc to_ tn tc (b + 2 + 1 + 1) (b + 2 + 1) (b + 2) MB MT ((((W0.alloc (.cells MT 3)).alloc (.cells MB 63)).alloc (.cells #[.int .i64 f, .int .i64 t, .slice (some ⟨b + 2 + 1, 0, none⟩) fn fn, .slice (some ⟨b + 2, 0, none⟩) tn tn] 44)).drew) :=
  cpI_of Z0 R0 (((((Below.refl _ _).alloc (Nat.le_refl _) _).alloc (by simp) _).alloc (by simp; omega) _).drew) (heap3 hs).2.2 (heap3 hs).2.1 (heap3 hs).1 (by omega) (by omega) (by omega) (by omega) (by omega) (by omega)
theorem cpI_342 (Z0 : ZBox W0 b (.int .i64 f) (.int .i64 t) (.slice fo fn fc) (.slice to_ tn tc)) (R0 : Res4 W0 (b + 1)) (hs : W0.heap.size = b + 2) :
    CpI W0 b f t fo fn fc to_ tn tc (b + 2 + 1) (b + 2 + 1 + 1) (b + 2) MB MT ((((W0.alloc (.cells MT 3)).alloc (.cells #[.int .i64 f, .int .i64 t, .slice (some ⟨b + 2 + 1 + 1, 0, none⟩) fn fn, .slice (some ⟨b + 2, 0, none⟩) tn tn] 44)).alloc (.cells MB 63)).drew) :=
  cpI_of Z0 R0 (((((Below.refl _ _).alloc (Nat.le_refl _) _).alloc (by simp) _).alloc (by simp; omega) _).drew) (heap3 hs).2.1 (heap3 hs).2.2 (heap3 hs).1 (by omega) (by omega) (by omega) (by omega) (by omega) (by omega)
theorem cpI_234 (Z0 : ZBox W0 b (.int .i64 f) (.int .i64 t) (.slice fo fn fc) (.slice to_ tn tc)) (R0 : Res4 W0 (b + 1)) (hs : W0.heap.size = b + 2) :
    CpI W0 b f t fo fn fc to_ tn tc (b + 2) (b + 2 + 1) (b + 2 + 1 + 1) MB MT ((((W0.alloc (.cells #[.int .i64 f, .int .i64 t, .slice (some ⟨b + 2 + 1, 0, none⟩) fn fn, .slice (some ⟨b + 2 + 1 + 1, 0, none⟩) tn tn] 44)).alloc (.cells MB 63)).alloc (.cells MT 3)).drew) :=
  cpI_of Z0 R0 (((((Below.refl _ _).alloc (Nat.le_refl _) _).alloc (by simp) _).alloc (by simp; omega) _).drew) (heap3 hs).1 (heap3 hs).2.1 (heap3 hs).2.2 (by omega) (by omega) (by omega) (by omega) (by omega) (by omega)
theorem cpI_243 (Z0 : ZBox W0 b (.int .i64 f) (.int .i64 t) (.slice fo fn fc) (.slice to_ tn tc)) (R0 : Res4 W0 (b + 1)) (hs : W0.heap.size = b + 2) :
    CpI W0 b f t fo fn fc to_ tn tc (b + 2) (b + 2 + 1 + 1) (b + 2 + 1) MB MT ((((W0.alloc (.cells #[.int .i64 f, .int .i64 t, .slice (some ⟨b + 2 + 1 + 1, 0, none⟩) fn fn, .slice (some ⟨b + 2 + 1, 0, none⟩) tn tn] 44)).alloc (.cells MT 3)).alloc (.cells MB 63)).drew) :=
  cpI_of Z0 R0 (((((Below.refl _ _).alloc (Nat.le_refl _) _).alloc (by simp) _).alloc (by simp; omega) _).drew) (heap3 hs).1 (heap3 hs).2.2 (heap3 hs).2.1 (by omega) (by omega) (by omega) (by omega) (by omega) (by omega)
theorem CpI.copied (h : CpI W0 b f t fo fn fc to_ tn tc x g k MB MT W) (hb : But g W W') {M : Array Value} (hg : W'.heap[g]? = some (.cells M 63 (0, 0))) (hs : W0.heap.size ≤ g) : CpI W0 b f t fo fn fc to_ tn tc x g k M MT W' :=
  ⟨h.b.trans (hb.below hs h.b.size), h.zin.but hb (by have := h.g2; omega), h.res.but hb (by have := h.g2; omega), h.box.but hb h.xg, hg, (hb.block k (Array.getElem?_eq_some_iff.1 h.rk).1 (fun e => h.gk e.symm)).trans h.rk, h.xg, h.xk, h.gk, h.x2, h.g2, h.k2⟩
theorem CpI.copied2 (h : CpI W0 b f t fo fn fc to_ tn tc x g k MB MT W) (hb : But k W W') {M : Array Value} (hg : W'.heap[k]? = some (.cells M 3 (0, 0))) (hs : W0.heap.size ≤ k) : CpI W0 b f t fo fn fc to_ tn tc x g k MB M W' :=
  ⟨h.b.trans (hb.below hs h.b.size), h.zin.but hb (by have := h.k2; omega), h.res.but hb (by have := h.k2; omega), h.box.but hb h.xk, (hb.block g (Array.getElem?_eq_some_iff.1 h.rg).1 h.gk).trans h.rg, hg, h.xg, h.xk, h.gk, h.x2, h.g2, h.k2⟩
theorem CpI.last {LB LT CB CT : List Value} {free : List Bk} {types : List Int} (h : CpI W0 b f t fo fn fc to_ tn tc x g k (splice LB 0 CB).toArray (splice LT 0 CT).toArray W) (eB : CB = bvals free) (eT : CT = vals types) (lB : CB.length = fn * 3) (lT : CT.length = tn * 1) (mB : LB.length = fn * 3) (mT : LT.length = tn * 1) (hmf : fn ≤ maxLen) (hmt : tn ≤ maxLen) :
    W.ownsRow b 63 3 (.slice (some ⟨g, 0, none⟩) fn fn) fn (bvals free) ∧ W.ownsRow b 3 1 (.slice (some ⟨k, 0, none⟩) tn tn) tn (vals types) ∧ g ≠ k := by
  have hg := h.rg
  have hk := h.rk
  rw [splice_all (by omega)] at hg hk
  exact ⟨by rw [← eB]; exact owns_of_row hg (by have := h.g2; omega) lB hmf, by rw [← eT]; exact owns_of_row hk (by have := h.k2; omega) lT hmt, h.gk⟩
end

set_option maxHeartbeats 4000000 in
theorem zCopy_own (w : World) (fo : Option Addr) (fn fc : Nat) (to_ : Option Addr) (tn tc : Nat) (z : Zn) (h : ZnAt w fo fn to_ tn z) :
    Calls Try.prog 41 #[.agg #[.int .i64 z.f, .int .i64 z.t, .slice fo fn fc, .slice to_ tn tc]] w fun e w' => ∃ g k, e = .returned (.agg #[.int .i64 z.f, .int .i64 z.t, .slice (some ⟨g, 0, none⟩) fn fn, .slice (some ⟨k, 0, none⟩) tn tn]) ∧
      w'.ownsRow w.heap.size 63 3 (.slice (some ⟨g, 0, none⟩) fn fn) fn (bvals z.free) ∧ w'.ownsRow w.heap.size 3 1 (.slice (some ⟨k, 0, none⟩) tn tn) tn (vals z.types) ∧ g ≠ k ∧ Below w.heap.size w w' := by
  obtain ⟨f, t, free, types⟩ := z
  obtain ⟨hf, ht⟩ := h
  dsimp only at hf ht ⊢
  obtain ⟨i0, hi, hz0, hz1, hz2⟩ := info_parts info_int
  obtain ⟨i1, hj, hy0, hy1, hy2⟩ := info_parts info_block
  have hfr := hf.reach
  have htr := ht.reach
  have hmf : fn ≤ maxLen := by unfold maxLen; omega
  have hmt : tn ≤ maxLen := by unfold maxLen; omega
  obtain ⟨MB, sB, hB⟩ := made_b (P := Try.prog) Try.underlying26 hj hy0 fn (by rw [hy2]; omega) hmf
  obtain ⟨MT, sT, hT⟩ := made_b (P := Try.prog) Try.underlying24 hi hz0 tn (by rw [hz2]; omega) hmt
  rw [hy1] at sB
  rw [hz1] at sT
  obtain ⟨W0, hW0⟩ : ∃ W0, (w.alloc (.cells #[.int .i64 f, .int .i64 t, .slice fo fn fc, .slice to_ tn tc] 44)).alloc (.cells #[.int .i64 0, .int .i64 0, .slice none 0 0, .slice none 0 0] 44) = W0 := ⟨_, rfl⟩
  have hb0 : Below w.heap.size w W0 := by rw [← hW0]; exact ((Below.refl _ _).alloc (Nat.le_refl _) _).alloc (by simp) _
  have Z0 : ZBox W0 w.heap.size (.int .i64 f) (.int .i64 t) (.slice fo fn fc) (.slice to_ tn tc) := by rw [← hW0]; exact (zbox_new w _ _ _ _ _).below (below_box _ _)
  have R0 : Res4 W0 (w.heap.size + 1) := by
    rw [← hW0]
    have := zbox_new (w.alloc (.cells #[.int .i64 f, .int .i64 t, .slice fo fn fc, .slice to_ tn tc] 44)) (.int .i64 0) (.int .i64 0) (.slice none 0 0) (.slice none 0 0) 44
    have h2 := this.res
    simpa using h2
  have hs0 : W0.heap.size = w.heap.size + 2 := by rw [← hW0]; simp
  have HW0 : Hid _ := hW0
  have Z1 := Z0
  have R1 := R0
  obtain ⟨CB, hCB⟩ : ∃ CB, CB = bvals free := ⟨_, rfl⟩
  obtain ⟨CT, hCT⟩ : ∃ CT, CT = vals types := ⟨_, rfl⟩
  have lB : CB.length = fn * 3 := by rw [hCB, length_bvals, hf.len]
  have lT : CT.length = tn * 1 := by rw [hCT, length_vals, ht.len, Nat.mul_one]
  have oB : ∀ v ∈ CB, v.oneCell' = true := by rw [hCB]; exact bvals_oneCell _
  have oT : ∀ v ∈ CT, v.oneCell' = true := by rw [hCT]; exact vals_oneCell _
  have HSB : Hid (∀ W, Below W0.heap.size W0 W → 0 < fn → ∃ ad, fo = some ad ∧ ∀ j v, CB[j]? = some v → W.cell? (ad.add j) = some v) := fun W hW h0 => by
    rw [hCB]
    exact bsrc_of ((hf.below hb0).below hW).at_ (by have := hf.len; omega)
  have HST : Hid (∀ W, Below W0.heap.size W0 W → 0 < tn → ∃ ad, to_ = some ad ∧ ∀ j v, CT[j]? = some v → W.cell? (ad.add j) = some v) := fun W hW h0 => by
    rw [hCT]
    exact src_of ((ht.below hb0).below hW).at_ (by have := ht.len; omega)
  have HCB : Hid _ := hCB
  have HCT : Hid _ := hCT
  clear hCB hCT
  have c0 := Z0.c0
  have c1 := Z0.c1
  have c2 := Z0.c2
  have c3 := Z0.c3
  have hsB : Hid (MB.size = fn * 3) := sB
  have hsT : Hid (MT.size = tn * 1) := sT
  clear hW0 sB sT
  go_enter Try.func41, Try.ntmps41
  go_wp2_with (rw [HW0.out])
  clear HW0
  go_region
  clear Z0 R0 c0 c1 c2 c3 hB hT hf ht
  · have I1 : CpI W0 w.heap.size f t fo fn fc to_ tn tc (w.heap.size + 2 + 1 + 1) (w.heap.size + 2) (w.heap.size + 2 + 1) MB MT _ := cpI_423 Z1 R1 hs0
    generalize World.drew _ = W1 at I1 ⊢
    generalize w.heap.size + 2 + 1 + 1 = n4 at I1 ⊢
    generalize w.heap.size + 2 + 1 = n3 at I1 ⊢
    generalize hn2 : w.heap.size + 2 = n2 at I1 ⊢
    have hx2 := I1.x2
    have hg2 := I1.g2
    have hk2 := I1.k2
    have y2 := I1.box.c2
    have y3 := I1.box.c3
    have q2 := I1.zin.c2
    have q3 := I1.zin.c3
    go_wp2_with (first
      | (refine wpList_copy_k rfl (.tmp 18) (.tmp 20) 26 26 rfl 63 3 Try.underlying26 size_block _ _ _ _ _ _ rfl rfl n2 0 MB.toList 63 (by simpa using I1.rg) CB fn (Nat.min_self _) lB (fun h0 => ⟨rfl, HSB.out _ I1.b h0⟩) (by simp only [Array.length_toList]; rw [lB, hsB.out]; omega) oB ?_; intro w2 hg2 hb2; have I2 := I1.copied hb2 hg2.out (by omega); have a3 := I2.box.c3; have b3 := I2.zin.c3)
      | (refine wpList_copy_k rfl (.tmp 23) (.tmp 25) 24 24 rfl 3 1 Try.underlying24 size_int _ _ _ _ _ _ rfl rfl n3 0 MT.toList 3 (by simpa using I2.rk) CT tn (Nat.min_self _) lT (fun h0 => ⟨rfl, HST.out _ I2.b h0⟩) (by simp only [Array.length_toList]; rw [lT, hsT.out]; omega) oT ?_; intro w3 hg3 hb3; have I3 := I2.copied2 hb3 hg3.out (by omega); have e0 := I3.box.c0; have e1 := I3.box.c1; have e2 := I3.box.c2; have e3 := I3.box.c3; have R3 := I3.res; obtain ⟨⟨x0, d0⟩, ⟨x1, d1⟩, ⟨x2, d2⟩, ⟨x3, d3⟩, z0, z1, z2, z3⟩ := id R3))
    obtain ⟨o1, o2, o3⟩ := I3.last HCB.out HCT.out lB lT (by rw [Array.length_toList, hsB.out]) (by rw [Array.length_toList, hsT.out]) hmf hmt
    have hB3 := hb0.trans (I3.b.mono (by omega))
    obtain ⟨k0, k1, k2, k3⟩ := res4 R3 (.int .i64 f) (.int .i64 t) (.slice (some ⟨n2, 0, none⟩) fn fn) (.slice (some ⟨n3, 0, none⟩) tn tn)
    have hbt := but4 w3 (w.heap.size + 1) (.int .i64 f) (.int .i64 t) (.slice (some ⟨n2, 0, none⟩) fn fn) (.slice (some ⟨n3, 0, none⟩) tn tn)
    exact bodyPost_ret (v := .agg #[.int .i64 f, .int .i64 t, .slice (some ⟨n2, 0, none⟩) fn fn, .slice (some ⟨n3, 0, none⟩) tn tn]) (by simp [results, Try.results41, go_sem, k0, k1, k2, k3]) rfl ⟨n2, n3, rfl, owns_but o1 hbt (by omega), owns_but o2 hbt (by omega), o3, hB3.trans (hbt.below (by omega) hB3.size)⟩
  · have I1 : CpI W0 w.heap.size f t fo fn fc to_ tn tc (w.heap.size + 2 + 1) (w.heap.size + 2) (w.heap.size + 2 + 1 + 1) MB MT _ := cpI_324 Z1 R1 hs0
    generalize World.drew _ = W1 at I1 ⊢
    generalize w.heap.size + 2 + 1 + 1 = n4 at I1 ⊢
    generalize w.heap.size + 2 + 1 = n3 at I1 ⊢
    generalize hn2 : w.heap.size + 2 = n2 at I1 ⊢
    have hx2 := I1.x2
    have hg2 := I1.g2
    have hk2 := I1.k2
    have y2 := I1.box.c2
    have y3 := I1.box.c3
    have q2 := I1.zin.c2
    have q3 := I1.zin.c3
    go_wp2_with (first
      | (refine wpList_copy_k rfl (.tmp 18) (.tmp 20) 26 26 rfl 63 3 Try.underlying26 size_block _ _ _ _ _ _ rfl rfl n2 0 MB.toList 63 (by simpa using I1.rg) CB fn (Nat.min_self _) lB (fun h0 => ⟨rfl, HSB.out _ I1.b h0⟩) (by simp only [Array.length_toList]; rw [lB, hsB.out]; omega) oB ?_; intro w2 hg2 hb2; have I2 := I1.copied hb2 hg2.out (by omega); have a3 := I2.box.c3; have b3 := I2.zin.c3)
      | (refine wpList_copy_k rfl (.tmp 23) (.tmp 25) 24 24 rfl 3 1 Try.underlying24 size_int _ _ _ _ _ _ rfl rfl n4 0 MT.toList 3 (by simpa using I2.rk) CT tn (Nat.min_self _) lT (fun h0 => ⟨rfl, HST.out _ I2.b h0⟩) (by simp only [Array.length_toList]; rw [lT, hsT.out]; omega) oT ?_; intro w3 hg3 hb3; have I3 := I2.copied2 hb3 hg3.out (by omega); have e0 := I3.box.c0; have e1 := I3.box.c1; have e2 := I3.box.c2; have e3 := I3.box.c3; have R3 := I3.res; obtain ⟨⟨x0, d0⟩, ⟨x1, d1⟩, ⟨x2, d2⟩, ⟨x3, d3⟩, z0, z1, z2, z3⟩ := id R3))
    obtain ⟨o1, o2, o3⟩ := I3.last HCB.out HCT.out lB lT (by rw [Array.length_toList, hsB.out]) (by rw [Array.length_toList, hsT.out]) hmf hmt
    have hB3 := hb0.trans (I3.b.mono (by omega))
    obtain ⟨k0, k1, k2, k3⟩ := res4 R3 (.int .i64 f) (.int .i64 t) (.slice (some ⟨n2, 0, none⟩) fn fn) (.slice (some ⟨n4, 0, none⟩) tn tn)
    have hbt := but4 w3 (w.heap.size + 1) (.int .i64 f) (.int .i64 t) (.slice (some ⟨n2, 0, none⟩) fn fn) (.slice (some ⟨n4, 0, none⟩) tn tn)
    exact bodyPost_ret (v := .agg #[.int .i64 f, .int .i64 t, .slice (some ⟨n2, 0, none⟩) fn fn, .slice (some ⟨n4, 0, none⟩) tn tn]) (by simp [results, Try.results41, go_sem, k0, k1, k2, k3]) rfl ⟨n2, n4, rfl, owns_but o1 hbt (by omega), owns_but o2 hbt (by omega), o3, hB3.trans (hbt.below (by omega) hB3.size)⟩
  · have I1 : CpI W0 w.heap.size f t fo fn fc to_ tn tc (w.heap.size + 2 + 1 + 1) (w.heap.size + 2 + 1) (w.heap.size + 2) MB MT _ := cpI_432 Z1 R1 hs0
    generalize World.drew _ = W1 at I1 ⊢
    generalize w.heap.size + 2 + 1 + 1 = n4 at I1 ⊢
    generalize w.heap.size + 2 + 1 = n3 at I1 ⊢
    generalize hn2 : w.heap.size + 2 = n2 at I1 ⊢
    have hx2 := I1.x2
    have hg2 := I1.g2
    have hk2 := I1.k2
    have y2 := I1.box.c2
    have y3 := I1.box.c3
    have q2 := I1.zin.c2
    have q3 := I1.zin.c3
    go_wp2_with (first
      | (refine wpList_copy_k rfl (.tmp 18) (.tmp 20) 26 26 rfl 63 3 Try.underlying26 size_block _ _ _ _ _ _ rfl rfl n3 0 MB.toList 63 (by simpa using I1.rg) CB fn (Nat.min_self _) lB (fun h0 => ⟨rfl, HSB.out _ I1.b h0⟩) (by simp only [Array.length_toList]; rw [lB, hsB.out]; omega) oB ?_; intro w2 hg2 hb2; have I2 := I1.copied hb2 hg2.out (by omega); have a3 := I2.box.c3; have b3 := I2.zin.c3)
      | (refine wpList_copy_k rfl (.tmp 23) (.tmp 25) 24 24 rfl 3 1 Try.underlying24 size_int _ _ _ _ _ _ rfl rfl n2 0 MT.toList 3 (by simpa using I2.rk) CT tn (Nat.min_self _) lT (fun h0 => ⟨rfl, HST.out _ I2.b h0⟩) (by simp only [Array.length_toList]; rw [lT, hsT.out]; omega) oT ?_; intro w3 hg3 hb3; have I3 := I2.copied2 hb3 hg3.out (by omega); have e0 := I3.box.c0; have e1 := I3.box.c1; have e2 := I3.box.c2; have e3 := I3.box.c3; have R3 := I3.res; obtain ⟨⟨x0, d0⟩, ⟨x1, d1⟩, ⟨x2, d2⟩, ⟨x3, d3⟩, z0, z1, z2, z3⟩ := id R3))
    obtain ⟨o1, o2, o3⟩ := I3.last HCB.out HCT.out lB lT (by rw [Array.length_toList, hsB.out]) (by rw [Array.length_toList, hsT.out]) hmf hmt
    have hB3 := hb0.trans (I3.b.mono (by omega))
    obtain ⟨k0, k1, k2, k3⟩ := res4 R3 (.int .i64 f) (.int .i64 t) (.slice (some ⟨n3, 0, none⟩) fn fn) (.slice (some ⟨n2, 0, none⟩) tn tn)
    have hbt := but4 w3 (w.heap.size + 1) (.int .i64 f) (.int .i64 t) (.slice (some ⟨n3, 0, none⟩) fn fn) (.slice (some ⟨n2, 0, none⟩) tn tn)
    exact bodyPost_ret (v := .agg #[.int .i64 f, .int .i64 t, .slice (some ⟨n3, 0, none⟩) fn fn, .slice (some ⟨n2, 0, none⟩) tn tn]) (by simp [results, Try.results41, go_sem, k0, k1, k2, k3]) rfl ⟨n3, n2, rfl, owns_but o1 hbt (by omega), owns_but o2 hbt (by omega), o3, hB3.trans (hbt.below (by omega) hB3.size)⟩
  · have I1 : CpI W0 w.heap.size f t fo fn fc to_ tn tc (w.heap.size + 2 + 1) (w.heap.size + 2 + 1 + 1) (w.heap.size + 2) MB MT _ := cpI_342 Z1 R1 hs0
    generalize World.drew _ = W1 at I1 ⊢
    generalize w.heap.size + 2 + 1 + 1 = n4 at I1 ⊢
    generalize w.heap.size + 2 + 1 = n3 at I1 ⊢
    generalize hn2 : w.heap.size + 2 = n2 at I1 ⊢
    have hx2 := I1.x2
    have hg2 := I1.g2
    have hk2 := I1.k2
    have y2 := I1.box.c2
    have y3 := I1.box.c3
    have q2 := I1.zin.c2
    have q3 := I1.zin.c3
    go_wp2_with (first
      | (refine wpList_copy_k rfl (.tmp 18) (.tmp 20) 26 26 rfl 63 3 Try.underlying26 size_block _ _ _ _ _ _ rfl rfl n4 0 MB.toList 63 (by simpa using I1.rg) CB fn (Nat.min_self _) lB (fun h0 => ⟨rfl, HSB.out _ I1.b h0⟩) (by simp only [Array.length_toList]; rw [lB, hsB.out]; omega) oB ?_; intro w2 hg2 hb2; have I2 := I1.copied hb2 hg2.out (by omega); have a3 := I2.box.c3; have b3 := I2.zin.c3)
      | (refine wpList_copy_k rfl (.tmp 23) (.tmp 25) 24 24 rfl 3 1 Try.underlying24 size_int _ _ _ _ _ _ rfl rfl n2 0 MT.toList 3 (by simpa using I2.rk) CT tn (Nat.min_self _) lT (fun h0 => ⟨rfl, HST.out _ I2.b h0⟩) (by simp only [Array.length_toList]; rw [lT, hsT.out]; omega) oT ?_; intro w3 hg3 hb3; have I3 := I2.copied2 hb3 hg3.out (by omega); have e0 := I3.box.c0; have e1 := I3.box.c1; have e2 := I3.box.c2; have e3 := I3.box.c3; have R3 := I3.res; obtain ⟨⟨x0, d0⟩, ⟨x1, d1⟩, ⟨x2, d2⟩, ⟨x3, d3⟩, z0, z1, z2, z3⟩ := id R3))
    obtain ⟨o1, o2, o3⟩ := I3.last HCB.out HCT.out lB lT (by rw [Array.length_toList, hsB.out]) (by rw [Array.length_toList, hsT.out]) hmf hmt
    have hB3 := hb0.trans (I3.b.mono (by omega))
    obtain ⟨k0, k1, k2, k3⟩ := res4 R3 (.int .i64 f) (.int .i64 t) (.slice (some ⟨n4, 0, none⟩) fn fn) (.slice (some ⟨n2, 0, none⟩) tn tn)
    have hbt := but4 w3 (w.heap.size + 1) (.int .i64 f) (.int .i64 t) (.slice (some ⟨n4, 0, none⟩) fn fn) (.slice (some ⟨n2, 0, none⟩) tn tn)
    exact bodyPost_ret (v := .agg #[.int .i64 f, .int .i64 t, .slice (some ⟨n4, 0, none⟩) fn fn, .slice (some ⟨n2, 0, none⟩) tn tn]) (by simp [results, Try.results41, go_sem, k0, k1, k2, k3]) rfl ⟨n4, n2, rfl, owns_but o1 hbt (by omega), owns_but o2 hbt (by omega), o3, hB3.trans (hbt.below (by omega) hB3.size)⟩
  · have I1 : CpI W0 w.heap.size f t fo fn fc to_ tn tc (w.heap.size + 2) (w.heap.size + 2 + 1) (w.heap.size + 2 + 1 + 1) MB MT _ := cpI_234 Z1 R1 hs0
    generalize World.drew _ = W1 at I1 ⊢
    generalize w.heap.size + 2 + 1 + 1 = n4 at I1 ⊢
    generalize w.heap.size + 2 + 1 = n3 at I1 ⊢
    generalize hn2 : w.heap.size + 2 = n2 at I1 ⊢
    have hx2 := I1.x2
    have hg2 := I1.g2
    have hk2 := I1.k2
    have y2 := I1.box.c2
    have y3 := I1.box.c3
    have q2 := I1.zin.c2
    have q3 := I1.zin.c3
    go_wp2_with (first
      | (refine wpList_copy_k rfl (.tmp 18) (.tmp 20) 26 26 rfl 63 3 Try.underlying26 size_block _ _ _ _ _ _ rfl rfl n3 0 MB.toList 63 (by simpa using I1.rg) CB fn (Nat.min_self _) lB (fun h0 => ⟨rfl, HSB.out _ I1.b h0⟩) (by simp only [Array.length_toList]; rw [lB, hsB.out]; omega) oB ?_; intro w2 hg2 hb2; have I2 := I1.copied hb2 hg2.out (by omega); have a3 := I2.box.c3; have b3 := I2.zin.c3)
      | (refine wpList_copy_k rfl (.tmp 23) (.tmp 25) 24 24 rfl 3 1 Try.underlying24 size_int _ _ _ _ _ _ rfl rfl n4 0 MT.toList 3 (by simpa using I2.rk) CT tn (Nat.min_self _) lT (fun h0 => ⟨rfl, HST.out _ I2.b h0⟩) (by simp only [Array.length_toList]; rw [lT, hsT.out]; omega) oT ?_; intro w3 hg3 hb3; have I3 := I2.copied2 hb3 hg3.out (by omega); have e0 := I3.box.c0; have e1 := I3.box.c1; have e2 := I3.box.c2; have e3 := I3.box.c3; have R3 := I3.res; obtain ⟨⟨x0, d0⟩, ⟨x1, d1⟩, ⟨x2, d2⟩, ⟨x3, d3⟩, z0, z1, z2, z3⟩ := id R3))
    obtain ⟨o1, o2, o3⟩ := I3.last HCB.out HCT.out lB lT (by rw [Array.length_toList, hsB.out]) (by rw [Array.length_toList, hsT.out]) hmf hmt
    have hB3 := hb0.trans (I3.b.mono (by omega))
    obtain ⟨k0, k1, k2, k3⟩ := res4 R3 (.int .i64 f) (.int .i64 t) (.slice (some ⟨n3, 0, none⟩) fn fn) (.slice (some ⟨n4, 0, none⟩) tn tn)
    have hbt := but4 w3 (w.heap.size + 1) (.int .i64 f) (.int .i64 t) (.slice (some ⟨n3, 0, none⟩) fn fn) (.slice (some ⟨n4, 0, none⟩) tn tn)
    exact bodyPost_ret (v := .agg #[.int .i64 f, .int .i64 t, .slice (some ⟨n3, 0, none⟩) fn fn, .slice (some ⟨n4, 0, none⟩) tn tn]) (by simp [results, Try.results41, go_sem, k0, k1, k2, k3]) rfl ⟨n3, n4, rfl, owns_but o1 hbt (by omega), owns_but o2 hbt (by omega), o3, hB3.trans (hbt.below (by omega) hB3.size)⟩
  · have I1 : CpI W0 w.heap.size f t fo fn fc to_ tn tc (w.heap.size + 2) (w.heap.size + 2 + 1 + 1) (w.heap.size + 2 + 1) MB MT _ := cpI_243 Z1 R1 hs0
    generalize World.drew _ = W1 at I1 ⊢
    generalize w.heap.size + 2 + 1 + 1 = n4 at I1 ⊢
    generalize w.heap.size + 2 + 1 = n3 at I1 ⊢
    generalize hn2 : w.heap.size + 2 = n2 at I1 ⊢
    have hx2 := I1.x2
    have hg2 := I1.g2
    have hk2 := I1.k2
    have y2 := I1.box.c2
    have y3 := I1.box.c3
    have q2 := I1.zin.c2
    have q3 := I1.zin.c3
    go_wp2_with (first
      | (refine wpList_copy_k rfl (.tmp 18) (.tmp 20) 26 26 rfl 63 3 Try.underlying26 size_block _ _ _ _ _ _ rfl rfl n4 0 MB.toList 63 (by simpa using I1.rg) CB fn (Nat.min_self _) lB (fun h0 => ⟨rfl, HSB.out _ I1.b h0⟩) (by simp only [Array.length_toList]; rw [lB, hsB.out]; omega) oB ?_; intro w2 hg2 hb2; have I2 := I1.copied hb2 hg2.out (by omega); have a3 := I2.box.c3; have b3 := I2.zin.c3)
      | (refine wpList_copy_k rfl (.tmp 23) (.tmp 25) 24 24 rfl 3 1 Try.underlying24 size_int _ _ _ _ _ _ rfl rfl n3 0 MT.toList 3 (by simpa using I2.rk) CT tn (Nat.min_self _) lT (fun h0 => ⟨rfl, HST.out _ I2.b h0⟩) (by simp only [Array.length_toList]; rw [lT, hsT.out]; omega) oT ?_; intro w3 hg3 hb3; have I3 := I2.copied2 hb3 hg3.out (by omega); have e0 := I3.box.c0; have e1 := I3.box.c1; have e2 := I3.box.c2; have e3 := I3.box.c3; have R3 := I3.res; obtain ⟨⟨x0, d0⟩, ⟨x1, d1⟩, ⟨x2, d2⟩, ⟨x3, d3⟩, z0, z1, z2, z3⟩ := id R3))
    obtain ⟨o1, o2, o3⟩ := I3.last HCB.out HCT.out lB lT (by rw [Array.length_toList, hsB.out]) (by rw [Array.length_toList, hsT.out]) hmf hmt
    have hB3 := hb0.trans (I3.b.mono (by omega))
    obtain ⟨k0, k1, k2, k3⟩ := res4 R3 (.int .i64 f) (.int .i64 t) (.slice (some ⟨n4, 0, none⟩) fn fn) (.slice (some ⟨n3, 0, none⟩) tn tn)
    have hbt := but4 w3 (w.heap.size + 1) (.int .i64 f) (.int .i64 t) (.slice (some ⟨n4, 0, none⟩) fn fn) (.slice (some ⟨n3, 0, none⟩) tn tn)
    exact bodyPost_ret (v := .agg #[.int .i64 f, .int .i64 t, .slice (some ⟨n4, 0, none⟩) fn fn, .slice (some ⟨n3, 0, none⟩) tn tn]) (by simp [results, Try.results41, go_sem, k0, k1, k2, k3]) rfl ⟨n4, n3, rfl, owns_but o1 hbt (by omega), owns_but o2 hbt (by omega), o3, hB3.trans (hbt.below (by omega) hB3.size)⟩

theorem zCopy_any (w : World) (fo : Option Addr) (fn fc : Nat) (to_ : Option Addr) (tn tc : Nat) (z : Zn) (h : ZnAt w fo fn to_ tn z) :
    Calls Try.prog 41 #[.agg #[.int .i64 z.f, .int .i64 z.t, .slice fo fn fc, .slice to_ tn tc]] w fun e w' => RetZ w.heap.size w' z e ∧ Below w.heap.size w w' := by
  refine (zCopy_own w fo fn fc to_ tn tc z h).mono ?_
  rintro e w1 ⟨g, k, rfl, o1, o2, _, hb⟩
  exact ⟨⟨_, _, _, _, _, _, rfl, ⟨blks_own o1 h.free.reach, nums_of_owns o2 h.types.reach⟩, owns_fresh o1, owns_fresh o2⟩, hb⟩

end Go.Proofs.Ytbjlbmofdnkmiaa

/-
  OWN TEXT. A heap of pages whose rows the call owns; what is there in the midst of a copy.
-/
namespace Go.Proofs.Ytbjlbmofdnkmiaa
open Go Go.RowKit Go.Proofs.Ytbjlbmofdnkmiaa.Kit

/-- The address lies in none of three blocks. -/
def Off3 (p q r : Nat) (ao : Option Addr) : Prop := ∀ a, ao = some a → a.block ≠ p ∧ a.block ≠ q ∧ a.block ≠ r

/-- A heap whose rows of zones, lists and blocks the call owns, at gz, gl, gv; what they point to lies elsewhere. -/
structure HOwn (w : World) (B gz gl gv : Nat) (y : Hx) : Prop where
  oz : w.ownsRow B 44 4 (.slice y.zo y.zn y.zc) y.zn (c4 (y.zs.map Zc.q))
  ol : w.ownsRow B 57 4 (.slice y.lo y.ln y.lc) y.ln (c4 (y.ls.map Lc.q))
  ov : w.ownsRow B 63 3 (.slice y.vo y.vn y.vc) y.vn (bvals y.live)
  ez : y.zo = some ⟨gz, 0, none⟩
  el : ∀ a, y.lo = some a → a.block = gl
  ev : ∀ a, y.vo = some a → a.block = gv
  at_ : y.At w
  zl : gz ≠ gl
  zv : gz ≠ gv
  lv : gl ≠ gv
  zoff : ∀ z ∈ y.zs, Off3 gz gl gv z.fo ∧ Off3 gz gl gv z.to_ ∧ Fresh B z.fo ∧ Fresh B z.to_
  loff : ∀ l ∈ y.ls, Off3 gz gl gv l.po ∧ Fresh B l.po ∧ l.pc = l.pn
  moff : Off3 gz gl gv y.mo
  mfresh : Fresh B y.mo
  gzB : B ≤ gz
  glB : B ≤ gl
  gvB : B ≤ gv

/-- Five numbers of blocks, from s on and below t, no two the same. -/
structure Five (s t X gz gm gl gv : Nat) : Prop where
  x1 : s ≤ X
  z1 : s ≤ gz
  m1 : s ≤ gm
  l1 : s ≤ gl
  v1 : s ≤ gv
  x2 : X < t
  z2 : gz < t
  m2 : gm < t
  l2 : gl < t
  v2 : gv < t
  xz : X ≠ gz
  xm : X ≠ gm
  xl : X ≠ gl
  xv : X ≠ gv
  zm : gz ≠ gm
  zl : gz ≠ gl
  zv : gz ≠ gv
  ml : gm ≠ gl
  mv : gm ≠ gv
  lv : gl ≠ gv

/-- What is there in the midst of a copy. -/
structure HcI (W0 : World) (hb : Nat) (h : Hx) (X gz gm gl gv : Nat) (CZ CM CL CV : List Value) (W : World) : Prop where
  b : Below W0.heap.size W0 W
  hin : HBox W hb (.slice h.zo h.zn h.zc) (.slice h.mo h.mn h.mc) (.int .i64 h.cpus) (.slice h.lo h.ln h.lc) (.slice h.vo h.vn h.vc)
  res : HBox W (hb + 1) (.slice none 0 0) (.slice none 0 0) (.int .i64 0) (.slice none 0 0) (.slice none 0 0)
  box : HBox W X (.slice (some ⟨gz, 0, none⟩) h.zn h.zn) (.slice (some ⟨gm, 0, none⟩) h.mn h.mn) (.int .i64 h.cpus) (.slice (some ⟨gl, 0, none⟩) h.ln h.ln) (.slice (some ⟨gv, 0, none⟩) h.vn h.vn)
  rz : W.heap[gz]? = some (.cells CZ.toArray 44 (0, 0))
  rm : W.heap[gm]? = some (.cells CM.toArray 3 (0, 0))
  rl : W.heap[gl]? = some (.cells CL.toArray 57 (0, 0))
  rv : W.heap[gv]? = some (.cells CV.toArray 63 (0, 0))

theorem lt_of_row {W : World} {g : Nat} {o : Obj} (h : W.heap[g]? = some o) : g < W.heap.size := (Array.getElem?_eq_some_iff.1 h).1

section
variable {W0 : World} {hb : Nat} {h : Hx} {X gz gm gl gv : Nat} {CZ CM CL CV : List Value} {W W' : World} {s t : Nat}
theorem HcI.below (I : HcI W0 hb h X gz gm gl gv CZ CM CL CV W) (hB : Below W.heap.size W W') : HcI W0 hb h X gz gm gl gv CZ CM CL CV W' :=
  ⟨I.b.trans (hB.mono I.b.size), I.hin.below hB, I.res.below hB, I.box.below hB, (hB.block _ (lt_of_row I.rz)).trans I.rz, (hB.block _ (lt_of_row I.rm)).trans I.rm, (hB.block _ (lt_of_row I.rl)).trans I.rl, (hB.block _ (lt_of_row I.rv)).trans I.rv⟩
theorem HcI.setZ (I : HcI W0 hb h X gz gm gl gv CZ CM CL CV W) (F : Five s t X gz gm gl gv) (hs : W0.heap.size = hb + 2) (hs' : s = W0.heap.size) (hB : But gz W W') {C : List Value} (hr : W'.heap[gz]? = some (.cells C.toArray 44 (0, 0))) : HcI W0 hb h X gz gm gl gv C CM CL CV W' :=
  ⟨I.b.trans (hB.below (by have := F.z1; omega) I.b.size), I.hin.but hB (by have := F.z1; omega), I.res.but hB (by have := F.z1; omega), I.box.but hB F.xz, hr, (hB.block _ (lt_of_row I.rm) (fun e => F.zm e.symm)).trans I.rm, (hB.block _ (lt_of_row I.rl) (fun e => F.zl e.symm)).trans I.rl, (hB.block _ (lt_of_row I.rv) (fun e => F.zv e.symm)).trans I.rv⟩
theorem HcI.setM (I : HcI W0 hb h X gz gm gl gv CZ CM CL CV W) (F : Five s t X gz gm gl gv) (hs : W0.heap.size = hb + 2) (hs' : s = W0.heap.size) (hB : But gm W W') {C : List Value} (hr : W'.heap[gm]? = some (.cells C.toArray 3 (0, 0))) : HcI W0 hb h X gz gm gl gv CZ C CL CV W' :=
  ⟨I.b.trans (hB.below (by have := F.m1; omega) I.b.size), I.hin.but hB (by have := F.m1; omega), I.res.but hB (by have := F.m1; omega), I.box.but hB F.xm, (hB.block _ (lt_of_row I.rz) F.zm).trans I.rz, hr, (hB.block _ (lt_of_row I.rl) (fun e => F.ml e.symm)).trans I.rl, (hB.block _ (lt_of_row I.rv) (fun e => F.mv e.symm)).trans I.rv⟩
theorem HcI.setL (I : HcI W0 hb h X gz gm gl gv CZ CM CL CV W) (F : Five s t X gz gm gl gv) (hs : W0.heap.size = hb + 2) (hs' : s = W0.heap.size) (hB : But gl W W') {C : List Value} (hr : W'.heap[gl]? = some (.cells C.toArray 57 (0, 0))) : HcI W0 hb h X gz gm gl gv CZ CM C CV W' :=
  ⟨I.b.trans (hB.below (by have := F.l1; omega) I.b.size), I.hin.but hB (by have := F.l1; omega), I.res.but hB (by have := F.l1; omega), I.box.but hB F.xl, (hB.block _ (lt_of_row I.rz) F.zl).trans I.rz, (hB.block _ (lt_of_row I.rm) F.ml).trans I.rm, hr, (hB.block _ (lt_of_row I.rv) (fun e => F.lv e.symm)).trans I.rv⟩
theorem HcI.setV (I : HcI W0 hb h X gz gm gl gv CZ CM CL CV W) (F : Five s t X gz gm gl gv) (hs : W0.heap.size = hb + 2) (hs' : s = W0.heap.size) (hB : But gv W W') {C : List Value} (hr : W'.heap[gv]? = some (.cells C.toArray 63 (0, 0))) : HcI W0 hb h X gz gm gl gv CZ CM CL C W' :=
  ⟨I.b.trans (hB.below (by have := F.v1; omega) I.b.size), I.hin.but hB (by have := F.v1; omega), I.res.but hB (by have := F.v1; omega), I.box.but hB F.xv, (hB.block _ (lt_of_row I.rz) F.zv).trans I.rz, (hB.block _ (lt_of_row I.rm) F.mv).trans I.rm, (hB.block _ (lt_of_row I.rl) F.lv).trans I.rl, hr⟩
end

theorem HcI.newer {W0 : World} {hb : Nat} {h : Hx} {X gz gm gl gv : Nat} {CZ CM CL CV : List Value} {W W' : World} {s t c : Nat} (I : HcI W0 hb h X gz gm gl gv CZ CM CL CV W) (F : Five s t X gz gm gl gv) (hs : W0.heap.size = hb + 2) (hs' : s = W0.heap.size) (hB : But c W W') (hc : t ≤ c) : HcI W0 hb h X gz gm gl gv CZ CM CL CV W' :=
  ⟨I.b.trans (hB.below (by have := F.z1; have := F.z2; omega) I.b.size), I.hin.but hB (by have := F.z1; have := F.z2; omega), I.res.but hB (by have := F.z1; have := F.z2; omega), I.box.but hB (by have := F.x2; omega), (hB.block _ (lt_of_row I.rz) (by have := F.z2; omega)).trans I.rz, (hB.block _ (lt_of_row I.rm) (by have := F.m2; omega)).trans I.rm, (hB.block _ (lt_of_row I.rl) (by have := F.l2; omega)).trans I.rl, (hB.block _ (lt_of_row I.rv) (by have := F.v2; omega)).trans I.rv⟩
theorem But.then_new {b c : Nat} {w w' w'' : World} (h : But b w w') (k : But c w' w'') (hc : w.heap.size ≤ c) : But b w w'' :=
  ⟨k.os.trans h.os, k.tape.trans h.tape, k.output.trans h.output, Nat.le_trans h.size k.size, fun i hi hb => (k.block i (Nat.lt_of_lt_of_le hi h.size) (by omega)).trans (h.block i hi hb)⟩

/-- Four stores into a row. -/
theorem row_set4 {W : World} {g : Nat} {t : TypeId} {L : List Value} (h : W.heap[g]? = some (.cells L.toArray t (0, 0))) (i : Nat) (a b c d : Value) :
    ((((W.setCell ⟨g, i, none⟩ a).setCell ⟨g, i + 1, none⟩ b).setCell ⟨g, i + 2, none⟩ c).setCell ⟨g, i + 3, none⟩ d).heap[g]? = some (.cells ((((L.set i a).set (i + 1) b).set (i + 2) c).set (i + 3) d).toArray t (0, 0)) := by
  have h1 : (W.setCell ⟨g, i, none⟩ a).heap[g]? = some (.cells (L.toArray.setIfInBounds i a) t (0, 0)) := heap_setCell_same _ _ _ _ _ _ h
  have h2 : ((W.setCell ⟨g, i, none⟩ a).setCell ⟨g, i + 1, none⟩ b).heap[g]? = some (.cells ((L.toArray.setIfInBounds i a).setIfInBounds (i + 1) b) t (0, 0)) := heap_setCell_same _ _ _ _ _ _ h1
  have h3 : (((W.setCell ⟨g, i, none⟩ a).setCell ⟨g, i + 1, none⟩ b).setCell ⟨g, i + 2, none⟩ c).heap[g]? = some (.cells (((L.toArray.setIfInBounds i a).setIfInBounds (i + 1) b).setIfInBounds (i + 2) c) t (0, 0)) := heap_setCell_same _ _ _ _ _ _ h2
  have h4 : ((((W.setCell ⟨g, i, none⟩ a).setCell ⟨g, i + 1, none⟩ b).setCell ⟨g, i + 2, none⟩ c).setCell ⟨g, i + 3, none⟩ d).heap[g]? = some (.cells ((((L.toArray.setIfInBounds i a).setIfInBounds (i + 1) b).setIfInBounds (i + 2) c).setIfInBounds (i + 3) d) t (0, 0)) := heap_setCell_same _ _ _ _ _ _ h3
  simpa using h4
theorem row_set1 {W : World} {g : Nat} {t : TypeId} {L : List Value} (h : W.heap[g]? = some (.cells L.toArray t (0, 0))) (i : Nat) (a : Value) : (W.setCell ⟨g, i, none⟩ a).heap[g]? = some (.cells (L.set i a).toArray t (0, 0)) := by
  have h1 : (W.setCell ⟨g, i, none⟩ a).heap[g]? = some (.cells (L.toArray.setIfInBounds i a) t (0, 0)) := heap_setCell_same _ _ _ _ _ _ h
  simpa using h1
theorem but_set4 (W : World) (g i : Nat) (a b c d : Value) : But g W ((((W.setCell ⟨g, i, none⟩ a).setCell ⟨g, i + 1, none⟩ b).setCell ⟨g, i + 2, none⟩ c).setCell ⟨g, i + 3, none⟩ d) :=
  ((((But.refl g W).setCell a).setCell b).setCell c).setCell d

theorem take_set4 {L A : List Value} {k n : Nat} (hl : L.length = n * 4) (hk : k < n) (ht : L.take (k * 4) = A) (a b c d : Value) :
    ((((L.set (k * 4) a).set (k * 4 + 1) b).set (k * 4 + 2) c).set (k * 4 + 3) d).take ((k + 1) * 4) = A ++ [a, b, c, d] := by
  subst ht
  apply List.ext_getElem?
  intro i
  rw [List.getElem?_take]
  by_cases h : i < (k + 1) * 4
  · rw [if_pos h]
    by_cases h0 : i < k * 4
    · rw [List.getElem?_append_left (by simp; omega), List.getElem?_take, if_pos h0]
      rw [List.getElem?_set_ne (by omega), List.getElem?_set_ne (by omega), List.getElem?_set_ne (by omega), List.getElem?_set_ne (by omega)]
    · rw [List.getElem?_append_right (by simp; omega)]
      have hlen : (L.take (k * 4)).length = k * 4 := by simp; omega
      rw [hlen]
      rcases (show i = k * 4 ∨ i = k * 4 + 1 ∨ i = k * 4 + 2 ∨ i = k * 4 + 3 by omega) with rfl | rfl | rfl | rfl
      · rw [List.getElem?_set_ne (by omega), List.getElem?_set_ne (by omega), List.getElem?_set_ne (by omega), List.getElem?_set_self (by omega)]
        simp
      · rw [List.getElem?_set_ne (by omega), List.getElem?_set_ne (by omega), List.getElem?_set_self (by simp; omega)]
        simp [show k * 4 + 1 - k * 4 = 1 by omega]
      · rw [List.getElem?_set_ne (by omega), List.getElem?_set_self (by simp; omega)]
        simp [show k * 4 + 2 - k * 4 = 2 by omega]
      · rw [List.getElem?_set_self (by simp; omega)]
        simp [show k * 4 + 3 - k * 4 = 3 by omega]
  · rw [if_neg h, List.getElem?_eq_none (by simp; omega)]

theorem row_res4 {W : World} {g : Nat} {t : TypeId} {L : List Value} {n k : Nat} (h : W.heap[g]? = some (.cells L.toArray t (0, 0))) (hl : L.length = n * 4) (hk : k < n) :
    (∃ v, W.cell? ⟨g, k * 4, none⟩ = some v) ∧ (∃ v, W.cell? ⟨g, k * 4 + 1, none⟩ = some v) ∧ (∃ v, W.cell? ⟨g, k * 4 + 2, none⟩ = some v) ∧ (∃ v, W.cell? ⟨g, k * 4 + 3, none⟩ = some v) ∧ ∀ j, W.frozen? ⟨g, j, none⟩ = false := by
  have hc : ∀ j, j < L.length → ∃ v, W.cell? ⟨g, j, none⟩ = some v := fun j hj => ⟨L[j], by rw [cell_of_row _ _ _ _ _ _ h]; simp [hj]⟩
  exact ⟨hc _ (by omega), hc _ (by omega), hc _ (by omega), hc _ (by omega), fun j => frozen_of_row _ _ _ _ _ h⟩

theorem c4_snoc (l : List Q4) (q : Q4) : c4 (l ++ [q]) = c4 l ++ [q.a, q.b, q.c, q.d] := by rw [c4_append]; rfl

/-- The first k zones are copied. -/
structure ZDone (S n k : Nat) (zs done : List Zc) (CZ : List Value) (W : World) : Prop where
  same : done.map (·.z) = (zs.take k).map (·.z)
  at_ : ∀ y ∈ done, y.At W ∧ Fresh S y.fo ∧ Fresh S y.to_
  clen : CZ.length = n * 4
  take : CZ.take (k * 4) = c4 (done.map Zc.q)
theorem ZDone.below {S n k : Nat} {zs done : List Zc} {CZ : List Value} {W W' : World} (h : ZDone S n k zs done CZ W) (hb : Below W.heap.size W W') : ZDone S n k zs done CZ W' :=
  ⟨h.same, fun y hy => ⟨(h.at_ y hy).1.below hb, (h.at_ y hy).2⟩, h.clen, h.take⟩
theorem ZDone.but {S n k c : Nat} {zs done : List Zc} {CZ : List Value} {W W' : World} (h : ZDone S n k zs done CZ W) (hb : But c W W') (hc : c < S) : ZDone S n k zs done CZ W' :=
  ⟨h.same, fun y hy => ⟨hb.zn (h.at_ y hy).1 (fun a ha => by have := (h.at_ y hy).2.1 a ha; omega) (fun a ha => by have := (h.at_ y hy).2.2 a ha; omega), (h.at_ y hy).2⟩, h.clen, h.take⟩
theorem ZDone.first {S n : Nat} {zs : List Zc} {CZ : List Value} {W : World} (h : CZ.length = n * 4) : ZDone S n 0 zs [] CZ W := ⟨rfl, fun y hy => absurd hy (by simp), h, by simp [c4]⟩
theorem ZDone.next {S n k g : Nat} {zs done : List Zc} {CZ : List Value} {W W' : World} (h : ZDone S n k zs done CZ W) (hk : k < n) (hn : zs.length = n) {z : Zn} {fo : Option Addr} {fn fc : Nat} {to_ : Option Addr} {tn tc : Nat} (hz : (zs.getD k .zero).z = z) (hb : But g W W') (hg : g < S) (hat : ZnAt W fo fn to_ tn z) (f1 : Fresh S fo) (f2 : Fresh S to_) :
    ZDone S n (k + 1) zs (done ++ [⟨z, fo, fn, fc, to_, tn, tc⟩]) ((((CZ.set (k * 4) (.int .i64 z.f)).set (k * 4 + 1) (.int .i64 z.t)).set (k * 4 + 2) (.slice fo fn fc)).set (k * 4 + 3) (.slice to_ tn tc)) W' := by
  have h' := h.but hb hg
  refine ⟨?_, ?_, by simpa using h.clen, ?_⟩
  · have e : zs[k]'(by omega) = zs.getD k .zero := by rw [List.getD_eq_getElem?_getD, List.getElem?_eq_getElem (by omega)]; rfl
    rw [List.map_append, h.same, List.take_succ_eq_append_getElem (by omega), List.map_append, e, List.map_cons, List.map_cons, List.map_nil, hz]
  · intro y hy
    rcases List.mem_append.1 hy with hy | hy
    · exact h'.at_ y hy
    · rw [List.mem_singleton] at hy
      subst hy
      exact ⟨hb.zn hat (fun a ha => by have := f1 a ha; omega) (fun a ha => by have := f2 a ha; omega), f1, f2⟩
  · rw [take_set4 h.clen hk h.take, List.map_append, List.map_cons, List.map_nil, c4_snoc]
    rfl
theorem ZDone.all {S n : Nat} {zs done : List Zc} {CZ : List Value} {W : World} (h : ZDone S n n zs done CZ W) (hn : zs.length = n) : done.map (·.z) = zs.map (·.z) ∧ CZ = c4 (done.map Zc.q) := by
  have h1 := h.same
  have h2 := h.take
  rw [List.take_of_length_le (by omega)] at h1
  rw [List.take_of_length_le (by have := h.clen; omega)] at h2
  exact ⟨h1, h2⟩

/-- The first k lists are copied. -/
structure LDone (S n k : Nat) (ls done : List Lc) (CL : List Value) (W : World) : Prop where
  same : done.map (·.l) = (ls.take k).map (·.l)
  at_ : ∀ y ∈ done, y.At W ∧ Fresh S y.po ∧ y.pc = y.pn
  clen : CL.length = n * 4
  take : CL.take (k * 4) = c4 (done.map Lc.q)
theorem LDone.but {S n k c : Nat} {ls done : List Lc} {CL : List Value} {W W' : World} (h : LDone S n k ls done CL W) (hb : But c W W') (hc : c < S) : LDone S n k ls done CL W' :=
  ⟨h.same, fun y hy => ⟨hb.nums (h.at_ y hy).1 (fun a ha => by have := (h.at_ y hy).2.1 a ha; omega), (h.at_ y hy).2⟩, h.clen, h.take⟩
theorem LDone.first {S n : Nat} {ls : List Lc} {CL : List Value} {W : World} (h : CL.length = n * 4) : LDone S n 0 ls [] CL W := ⟨rfl, fun y hy => absurd hy (by simp), h, by simp [c4]⟩
theorem LDone.next {S n k g : Nat} {ls done : List Lc} {CL CL' : List Value} {W W' : World} (h : LDone S n k ls done CL W) (hk : k < n) (hn : ls.length = n) {l : Ls} {po : Option Addr} {pn : Nat} (hz : (ls.getD k .zero).l = l) (hb : But g W W') (hg : g < S) (hat : Nums W' po pn l.pages) (f1 : Fresh S po)
    (hC : CL' = (((CL.set (k * 4) (.int .i64 l.c)).set (k * 4 + 1) (.int .i64 l.z)).set (k * 4 + 2) (.int .i64 l.t)).set (k * 4 + 3) (.slice po pn pn)) : LDone S n (k + 1) ls (done ++ [⟨l, po, pn, pn⟩]) CL' W' := by
  subst hC
  have h' := h.but hb hg
  refine ⟨?_, ?_, by simpa using h.clen, ?_⟩
  · have e : ls[k]'(by omega) = ls.getD k .zero := by rw [List.getD_eq_getElem?_getD, List.getElem?_eq_getElem (by omega)]; rfl
    rw [List.map_append, h.same, List.take_succ_eq_append_getElem (by omega), List.map_append, e, List.map_cons, List.map_cons, List.map_nil, hz]
  · intro y hy
    rcases List.mem_append.1 hy with hy | hy
    · exact h'.at_ y hy
    · rw [List.mem_singleton] at hy
      subst hy
      exact ⟨hat, f1, rfl⟩
  · rw [take_set4 h.clen hk h.take, List.map_append, List.map_cons, List.map_nil, c4_snoc]
    rfl
theorem LDone.all {S n : Nat} {ls done : List Lc} {CL : List Value} {W : World} (h : LDone S n n ls done CL W) (hn : ls.length = n) : done.map (·.l) = ls.map (·.l) ∧ CL = c4 (done.map Lc.q) := by
  have h1 := h.same
  have h2 := h.take
  rw [List.take_of_length_le (by omega)] at h1
  rw [List.take_of_length_le (by have := h.clen; omega)] at h2
  exact ⟨h1, h2⟩

/-- copy, the last step of a region that draws. -/
theorem oper_copy_k {P : Program} {o : Oper} {a : Act} {w : World} {K : Act → World → Prop} {Q : Exit → Act → World → Prop} (hgd : o.guard = none) (d s : Operand) (dT sT : TypeId)
    (ho : o.op = .call { callee := .builtin .copy, args := #[d, s], argTypes := #[dT, sT] }) (elem : TypeId) (k : Nat) (hu : P.underlying dT = some (.slice elem)) (hsz : (P.info? elem).map (·.size) = some k)
    (dp sp : Option Addr) (dLen dCap sLen sCap : Nat) (hd : a.eval d = .slice dp dLen dCap) (hs : a.eval s = .slice sp sLen sCap)
    (g off : Nat) (cur : List Value) (t : TypeId) (hg : w.heap[g]? = some (.cells cur.toArray t (0, 0))) (cs : List Value) (m : Nat) (hm : Nat.min sLen dLen = m) (hn : cs.length = m * k)
    (hpos : 0 < m → dp = some ⟨g, off, none⟩ ∧ ∃ ad, sp = some ad ∧ ∀ j v, cs[j]? = some v → w.cell? (ad.add j) = some v)
    (hfit : off + cs.length ≤ cur.length) (h1 : ∀ v ∈ cs, v.oneCell' = true)
    (h : ∀ w', Hid (w'.heap[g]? = some (.cells (splice cur off cs).toArray t (0, 0))) → But g w w' → K (a.put o.dst (goInt m)) w') : Oper.wp P o a w K Q := by
  have h := step_copy_k (P := P) (ops := #[]) (E := True) (Q := Q) hgd d s dT sT ho elem k hu hsz dp sp dLen dCap sLen sCap hd hs g off cur t hg cs m hm hn hpos hfit h1 h
  simpa [Region.wanted, hgd] using h

/-- A heap in new memory is returned. -/
def RetHeap (B : Nat) (w' : World) (H : Hp) (e : Ending) : Prop :=
  ∃ gz gl gv y, e = .returned (.agg #[.slice y.zo y.zn y.zc, .slice y.mo y.mn y.mc, .int .i64 y.cpus, .slice y.lo y.ln y.lc, .slice y.vo y.vn y.vc]) ∧ y.hp = H ∧ HOwn w' B gz gl gv y

theorem HcI.owns {W0 : World} {hb : Nat} {x : Hx} {X gz gm gl gv : Nat} {CZ CM CL CV : List Value} {W : World} {S : Nat} {zd : List Zc} {ld : List Lc} (I : HcI W0 hb x X gz gm gl gv CZ CM CL CV W) (F : Five W0.heap.size S X gz gm gl gv) (hx : x.At W)
    (D : ZDone S x.zn x.zn x.zs zd CZ W) (L : LDone S x.ln x.ln x.ls ld CL W) (hM : CM = vals x.mins) (hV : CV = bvals x.live) :
    HOwn W W0.heap.size gz gl gv ⟨zd, some ⟨gz, 0, none⟩, x.zn, x.zn, x.mins, some ⟨gm, 0, none⟩, x.mn, x.mn, x.cpus, ld, some ⟨gl, 0, none⟩, x.ln, x.ln, x.live, some ⟨gv, 0, none⟩, x.vn, x.vn⟩ ∧
    (Hx.mk zd (some ⟨gz, 0, none⟩) x.zn x.zn x.mins (some ⟨gm, 0, none⟩) x.mn x.mn x.cpus ld (some ⟨gl, 0, none⟩) x.ln x.ln x.live (some ⟨gv, 0, none⟩) x.vn x.vn).hp = x.hp := by
  obtain ⟨d1, d2⟩ := D.all hx.zones.len
  obtain ⟨l1, l2⟩ := L.all hx.lists.len
  have rz := hx.zones.reach
  have rm := hx.mins.reach
  have rl := hx.lists.reach
  have rv := hx.live.reach
  have f1 := F.z1
  have f2 := F.m1
  have f3 := F.l1
  have f4 := F.v1
  have oz : W.ownsRow W0.heap.size 44 4 (.slice (some ⟨gz, 0, none⟩) x.zn x.zn) x.zn (c4 (zd.map Zc.q)) := by rw [← d2]; exact owns_of_row I.rz (by omega) D.clen (by unfold maxLen; omega)
  have ol : W.ownsRow W0.heap.size 57 4 (.slice (some ⟨gl, 0, none⟩) x.ln x.ln) x.ln (c4 (ld.map Lc.q)) := by rw [← l2]; exact owns_of_row I.rl (by omega) L.clen (by unfold maxLen; omega)
  have lV : CV.length = x.vn * 3 := by rw [hV, length_bvals, hx.live.len]
  have lM : CM.length = x.mn * 1 := by rw [hM, length_vals, hx.mins.len]; omega
  have ov : W.ownsRow W0.heap.size 63 3 (.slice (some ⟨gv, 0, none⟩) x.vn x.vn) x.vn (bvals x.live) := by rw [← hV]; exact owns_of_row I.rv (by omega) lV (by unfold maxLen; omega)
  have om : W.ownsRow W0.heap.size 3 1 (.slice (some ⟨gm, 0, none⟩) x.mn x.mn) x.mn (vals x.mins) := by rw [← hM]; exact owns_of_row I.rm (by omega) lM (by unfold maxLen; omega)
  have hz : Zons W (some ⟨gz, 0, none⟩) x.zn zd := ⟨by have := congrArg List.length d1; simp only [List.length_map] at this; rw [this]; exact hx.zones.len, rz, c4_of_owns oz, fun y hy => (D.at_ y hy).1⟩
  have hl : Lsts W (some ⟨gl, 0, none⟩) x.ln ld := ⟨by have := congrArg List.length l1; simp only [List.length_map] at this; rw [this]; exact hx.lists.len, rl, c4_of_owns ol, fun y hy => (L.at_ y hy).1⟩
  have off : ∀ {ao : Option Addr}, Fresh S ao → Off3 gz gl gv ao := fun h a ha => by
    have := h a ha
    have g1 := F.z2
    have g2 := F.l2
    have g3 := F.v2
    exact ⟨by omega, by omega, by omega⟩
  have wk : ∀ {ao : Option Addr}, Fresh S ao → Fresh W0.heap.size ao := fun h => h.mono (by have := F.z2; omega)
  refine ⟨⟨oz, ol, ov, rfl, fun a ha => by cases ha; rfl, fun a ha => by cases ha; rfl, ⟨hz, nums_of_owns om rm, hl, blks_own ov rv⟩, F.zl, F.zv, F.lv, fun y hy => ?_, fun y hy => ?_, ?_, ?_, by omega, by omega, by omega⟩, ?_⟩
  · obtain ⟨_, h1, h2⟩ := D.at_ y hy
    exact ⟨off h1, off h2, wk h1, wk h2⟩
  · obtain ⟨_, h1, h2⟩ := L.at_ y hy
    exact ⟨off h1, wk h1, h2⟩
  · intro a ha
    cases ha
    exact ⟨fun e => F.zm e.symm, F.ml, F.mv⟩
  · intro a ha
    cases ha
    show W0.heap.size ≤ gm
    omega
  · show Hp.mk _ _ _ _ _ = Hp.mk _ _ _ _ _
    rw [d1, l1]

theorem HOwn.but {W W' : World} {B gz gl gv c : Nat} {y : Hx} (h : HOwn W B gz gl gv y) (hb : But c W W') (hc : c < B) : HOwn W' B gz gl gv y := by
  have g1 := h.gzB
  have g2 := h.glB
  have g3 := h.gvB
  have keepOwn : ∀ {e : TypeId} {size n cap : Nat} {ao : Option Addr} {xs : List Value}, W.ownsRow B e size (.slice ao n cap) n xs → W'.ownsRow B e size (.slice ao n cap) n xs := by
    intro e size n cap ao xs ho
    refine ⟨ho.1, ?_⟩
    rcases ho.2 with hn | ⟨g, cp, cur, hv, hbg, hg, rest⟩
    · exact .inl hn
    · exact .inr ⟨g, cp, cur, hv, hbg, (hb.block g (lt_of_row hg) (by omega)).trans hg, rest⟩
  have fr : ∀ {ao : Option Addr}, Fresh B ao → ∀ a, ao = some a → a.block ≠ c := fun hf a ha => by have := hf a ha; omega
  have oz := keepOwn h.oz
  have ol := keepOwn h.ol
  have ov := keepOwn h.ov
  exact ⟨oz, ol, ov, h.ez, h.el, h.ev, ⟨⟨h.at_.zones.len, h.at_.zones.reach, c4_of_owns oz, fun z hz => hb.zn (h.at_.zones.at_ z hz) (fr (h.zoff z hz).2.2.1) (fr (h.zoff z hz).2.2.2)⟩, hb.nums h.at_.mins (fr h.mfresh), ⟨h.at_.lists.len, h.at_.lists.reach, c4_of_owns ol, fun l hl => hb.nums (h.at_.lists.at_ l hl) (fr (h.loff l hl).2.1)⟩, ⟨h.at_.live.len, h.at_.live.reach, blks_of_owns ov⟩⟩, h.zl, h.zv, h.lv, h.zoff, h.loff, h.moff, h.mfresh, h.gzB, h.glB, h.gvB⟩

theorem HOwn.weaken {W : World} {B B' gz gl gv : Nat} {y : Hx} (h : HOwn W B gz gl gv y) (hb : B' ≤ B) : HOwn W B' gz gl gv y :=
  ⟨owns_weaken h.oz hb, owns_weaken h.ol hb, owns_weaken h.ov hb, h.ez, h.el, h.ev, h.at_, h.zl, h.zv, h.lv, fun z hz => ⟨(h.zoff z hz).1, (h.zoff z hz).2.1, (h.zoff z hz).2.2.1.mono hb, (h.zoff z hz).2.2.2.mono hb⟩, fun l hl => ⟨(h.loff l hl).1, (h.loff l hl).2.1.mono hb, (h.loff l hl).2.2⟩, h.moff, h.mfresh.mono hb, Nat.le_trans hb h.gzB, Nat.le_trans hb h.glB, Nat.le_trans hb h.gvB⟩

end Go.Proofs.Ytbjlbmofdnkmiaa

/-
  OWN TEXT. Contract of slices.Delete at one list of pages (written by l4.py).
-/
namespace Go.Proofs.Ytbjlbmofdnkmiaa
open Go Go.RowKit Go.Proofs.Ytbjlbmofdnkmiaa.Kit

theorem zero_list : ∀ w, (zeroValue 57).run Try.prog w = .ok (.agg #[.int .i64 0, .int .i64 0, .int .i64 0, .slice none 0 0]) w := fun w => by
  have h := info_list
  cases hq : Try.prog.info? 57 with
  | none => simp [hq] at h
  | some i =>
    simp [hq] at h
    simp [zeroValue, typeInfo, hq, h.1]
theorem zero_oneL : ∀ v ∈ (Value.agg #[.int .i64 0, .int .i64 0, .int .i64 0, .slice none 0 0]).cells, v.oneCell' = true := by
  intro v hv
  have h : v ∈ (#[.int .i64 0, .int .i64 0, .int .i64 0, .slice none 0 0] : Array Value) := hv
  simp at h
  rcases h with rfl | rfl <;> rfl
theorem q4_one {b : Q4} (h : b.One) : ∀ u ∈ ([b.a, b.b, b.c, b.d] : List Value), u.oneCell' = true := by
  obtain ⟨h1, h2, h3, h4⟩ := h
  intro u hu
  simp only [List.mem_cons, List.not_mem_nil, or_false] at hu
  rcases hu with rfl | rfl | rfl | rfl <;> assumption
theorem c4_take (l : List Q4) (i : Nat) : (c4 l).take (i * 4) = c4 (l.take i) := by
  induction l generalizing i with
  | nil => simp [c4]
  | cons b l ih =>
    cases i with
    | zero => simp [c4]
    | succ i => rw [Nat.succ_mul]; simp only [c4, List.take_succ_cons, ih]
theorem c4_drop (l : List Q4) (i : Nat) : (c4 l).drop (i * 4) = c4 (l.drop i) := by
  induction l generalizing i with
  | nil => simp [c4]
  | cons b l ih =>
    cases i with
    | zero => simp [c4]
    | succ i => rw [Nat.succ_mul]; simp only [c4, List.drop_succ_cons, ih]

set_option maxHeartbeats 2000000 in
theorem lDel_any (w : World) (base g N cap i : Nat) (l : List Q4) (hi : i ≤ N) (hn : N ≤ 300) (hl1 : ∀ x ∈ l, x.One) (own : w.ownsRow base 57 4 (.slice (some ⟨g, 0, none⟩) (N + 1) cap) (N + 1) (c4 l)) :
    Calls Try.prog 103 #[.slice (some ⟨g, 0, none⟩) (N + 1) cap, .int .i64 i, .int .i64 ((i : Int) + 1)] w fun e w' => e = .returned (.slice (some ⟨g, 0, none⟩) N cap) ∧
      w'.ownsRow base 57 4 (.slice (some ⟨g, 0, none⟩) N cap) N (c4 (l.eraseIdx i)) ∧ But g w w' := by
  obtain ⟨i1, hj, hy0, hy1, hy2⟩ := info_parts info_list
  have hll := c4owns_len own
  obtain ⟨hbg, hnc, cur, R, hcur⟩ := Row.of own
  have hm := R.m
  unfold maxLen at hm
  have own1 : w.drew.ownsRow base 57 4 (.slice (some ⟨g, 0, none⟩) i cap) i (c4 (l.take i)) :=
    (R.below (Below.refl _ _).drew).owns hbg (by omega) (by rw [take_cut hcur (by omega), c4_take])
  obtain ⟨news, hnews⟩ : ∃ news, news = c4 (l.drop (i + 1)) := ⟨_, rfl⟩
  have hnl : news.length = (N - i) * 4 := by rw [hnews, length_c4, List.length_drop, hll]; omega
  have hn1 : ∀ u ∈ news, u.oneCell' = true := by rw [hnews]; exact c4_oneCell _ (fun x hx => hl1 x (List.mem_of_mem_drop hx))
  have hcell : ∀ j u, news[j]? = some u → w.drew.cell? ((⟨g, (i + 1) * 4, none⟩ : Addr).add j) = some u := by
    intro j u hu
    rw [add_at, (R.below (Below.refl _ _).drew).cell]
    rw [hnews, ← c4_drop, List.getElem?_drop] at hu
    rw [← hcur, List.getElem?_take] at hu
    split at hu
    · exact hu
    · cases hu
  have HE : Hid (c4 (l.take i) ++ news = c4 (l.eraseIdx i)) := by
    show _ = _
    rw [hnews, ← c4_append, List.eraseIdx_eq_take_drop_succ]
  have hsum : i + (N - i) = N := by omega
  have Hcell : Hid _ := hcell
  have Hnl : Hid _ := hnl
  clear hnews hcur own hcell hnl
  have h1 : (i : Int) + 1 ≤ N + 1 := by omega
  have h2 : i ≤ N + 1 := by omega
  have h3 : ((i : Int) == (i : Int) + 1) = false := by simp; omega
  have h4 : ((i : Int) + 1).toNat = i + 1 := by omega
  have h5 : i ≤ cap := by omega
  have h6 : ¬ (cap = N) := by omega
  have h7 : N + 1 - N = 1 := by omega
  have h8 : (i : Int) ≤ (cap : Int) := by omega
  have h9 : (i : Int) + 1 ≤ (cap : Int) := by omega
  have h10 : (i : Int) ≤ (N : Int) + 1 := by omega
  have h11 : (N : Int) ≤ (N : Int) + 1 := by omega
  have h12 : (N : Int) + 1 ≤ (cap : Int) := by omega
  have h13 : ((N : Int) + 1).toNat = N + 1 := by omega
  have h14 : ¬ (cap = i) := by omega
  have h15 : (0 : Int) ≤ (i : Int) + 1 := by omega
  by_cases hc' : cap = i + 1
  · have hc : (cap = i + 1) = True := eq_true hc'
    have HC : Hid (cap = i + 1) := hc'
    clear hc'
    go_enter Try.func103, Try.ntmps103
    go_wp2
    go_region_law (refine step_append_fits rfl (.tmp 22) (.tmp 25) 25 rfl 57 i1 4 Try.underlying25 hj hy1 base g i cap (c4 (l.take i)) (by simp [Act.eval, Act.put]) own1 (some ⟨g, 0, none⟩) (N - i) (cap - (i + 1)) news (by simp [Act.eval, Act.put]) Hnl.out ⟨_, rfl, fun j u hu => by have := Hnl.out; have hc' := HC.out; have h0 : news = [] := List.eq_nil_of_length_eq_zero (by omega); rw [h0] at hu; cases hu⟩ hn1 N hsum (by omega) ?_; intro w1 ho1 hb1)
    all_goals
      obtain ⟨_, _, cur1, R1, hcur1⟩ := Row.of ho1
      have hl1 := R1.len
      clear own1 Hcell Hnl hn1 ho1 R
      go_wp2_with (refine wpList_clear_k rfl (.tmp 31) 25 rfl 57 _ 4 Try.underlying25 zero_list rfl zero_oneL _ _ _ rfl g (N * 4) cur1 R1.h (fun _ => rfl) (by omega) ?_; intro w2 cur2 hg2 hb2)
      go_ret
      obtain ⟨g1, g2, g3⟩ := hg2.out
      have R2 : Row w2 57 4 g cap cur2 := ⟨g1, by rw [g2]; exact hl1, R1.m⟩
      exact ⟨rfl, R2.owns hbg (by omega) (by rw [g3, hcur1, HE.out]), ((But.of_below (Below.refl _ _).drew).trans hb1).trans hb2⟩
  · go_enter Try.func103, Try.ntmps103
    go_wp2
    go_region_law (refine step_append_fits rfl (.tmp 22) (.tmp 25) 25 rfl 57 i1 4 Try.underlying25 hj hy1 base g i cap (c4 (l.take i)) (by simp [Act.eval, Act.put]) own1 (some ⟨g, (i + 1) * 4, none⟩) (N - i) (cap - (i + 1)) news (by simp [Act.eval, Act.put]) Hnl.out ⟨_, rfl, Hcell.out⟩ hn1 N hsum (by omega) ?_; intro w1 ho1 hb1)
    all_goals
      obtain ⟨_, _, cur1, R1, hcur1⟩ := Row.of ho1
      have hl1 := R1.len
      clear own1 Hcell Hnl hn1 ho1 R
      go_wp2_with (refine wpList_clear_k rfl (.tmp 31) 25 rfl 57 _ 4 Try.underlying25 zero_list rfl zero_oneL _ _ _ rfl g (N * 4) cur1 R1.h (fun _ => rfl) (by omega) ?_; intro w2 cur2 hg2 hb2)
      go_ret
      obtain ⟨g1, g2, g3⟩ := hg2.out
      have R2 : Row w2 57 4 g cap cur2 := ⟨g1, by rw [g2]; exact hl1, R1.m⟩
      exact ⟨rfl, R2.owns hbg (by omega) (by rw [g3, hcur1, HE.out]), ((But.of_below (Below.refl _ _).drew).trans hb1).trans hb2⟩

end Go.Proofs.Ytbjlbmofdnkmiaa
