/-
  OWN TEXTS, bundled: ZcCopy, BIdx, ZcChoose.
-/
import Derived.Test.YtffhpjjioefaeafDoorPart2
import Derived.Laws.MakeOwn
import Derived.Test.YtffhpjjioefaeafDoorPart3

/-
  OWN TEXT. Contracts of the code: buddy.Copy.
-/
namespace Go.Proofs.YtffhpjjioefaeafDoor
open Go Go.RowKit Go.Proofs.YtffhpjjioefaeafDoor.Kit

theorem made_b {P : Program} {t e : TypeId} {i : TypeInfo} {z : Value} (ht : P.underlying t = some (.slice e)) (hi : P.info? e = some i) (hz : i.zero = some z) (n : Nat) (hb : i.bytes * n ≤ 281474976710656) (hm : n ≤ maxLen) :
    ∃ M : Array Value, M.size = n * i.size ∧ ∀ W : World, (Instr.makeSlice t (.int .i64 (n : Int)) (.int .i64 (n : Int))).run P W = .ok (.slice (some ⟨W.heap.size, 0, none⟩) n n) (W.alloc (.cells M e)) := by
  refine ⟨madeCells z.cells (n * i.size), size_madeCells _ _, fun W => ?_⟩
  have hr := run_make (P := P) W t e i z ht hi hz .i64 .i64 n n (by omega) (Int.le_refl _) (by
    have h : ((i.bytes * n : Nat) : Int) ≤ 281474976710656 := by omega
    rwa [Int.natCast_mul] at h) (by have h := hm; simp [maxLen] at h; omega)
  simpa using hr

theorem owns_of_row {w : World} {base : Nat} {e : TypeId} {g n size : Nat} {xs : List Value} (h : w.heap[g]? = some (.cells xs.toArray e (0, 0))) (hb : base ≤ g) (hl : xs.length = n * size) (hm : n ≤ maxLen) :
    w.ownsRow base e size (.slice (some ⟨g, 0, none⟩) n n) n xs :=
  ⟨hl, .inr ⟨g, n, _, rfl, hb, h, Nat.le_refl _, hm, by simpa using hl, by simpa using List.take_of_length_le (by omega)⟩⟩

theorem owns_but {w w' : World} {base : Nat} {e : TypeId} {g n cap size c : Nat} {xs : List Value} (h : w.ownsRow base e size (.slice (some ⟨g, 0, none⟩) n cap) n xs) (hb : But c w w') (hne : g ≠ c) :
    w'.ownsRow base e size (.slice (some ⟨g, 0, none⟩) n cap) n xs :=
  h.kept (row := some c) ⟨hb.os, hb.tape, hb.output, hb.size, fun k hk hne => hb.block k hk (by intro g; exact hne (by rw [g]))⟩ (.inr (by simp [Value.ownBlock]; exact hne))

/-- What is there in the midst of a copy: the zone that came in at b, the copy at x with its rows at g and k. -/
structure CpI (W0 : World) (zb : Nat) (f t : Int) (fo : Option Addr) (fn fc : Nat) (to_ : Option Addr) (tn tc : Nat) (x g k : Nat) (MB MT : Array Value) (W : World) : Prop where
  b : Below W0.heap.size W0 W
  zin : ZBox W zb (.int .i64 f) (.int .i64 t) (.slice fo fn fc) (.slice to_ tn tc)
  res : Res4 W (zb + 1)
  box : ZBox W x (.int .i64 f) (.int .i64 t) (.slice (some ⟨g, 0, none⟩) fn fn) (.slice (some ⟨k, 0, none⟩) tn tn)
  rg : W.heap[g]? = some (.cells MB 32 (0, 0))
  rk : W.heap[k]? = some (.cells MT 3 (0, 0))
  xg : x ≠ g
  xk : x ≠ k
  gk : g ≠ k
  x2 : zb + 2 ≤ x
  g2 : zb + 2 ≤ g
  k2 : zb + 2 ≤ k

theorem zbox_of_row {W : World} {x : Nat} {a b c d : Value} {t : TypeId} (h : W.heap[x]? = some (.cells #[a, b, c, d] t (0, 0))) : ZBox W x a b c d := by
  have hc : ∀ i : Nat, W.cell? ⟨x, i, none⟩ = (#[a, b, c, d] : Array Value)[i]? := fun i => by simp [World.cell?, h]
  have hf : ∀ i : Nat, W.frozen? ⟨x, i, none⟩ = false := fun i => by simp [World.frozen?, h]
  exact ⟨by rw [hc]; rfl, by rw [hc]; rfl, by rw [hc]; rfl, by rw [hc]; rfl, hf 0, hf 1, hf 2, hf 3⟩

theorem heap3 {W : World} {A B C : Obj} {n : Nat} (hs : W.heap.size = n) : ((((W.alloc A).alloc B).alloc C).drew).heap[n]? = some A ∧ ((((W.alloc A).alloc B).alloc C).drew).heap[n + 1]? = some B ∧ ((((W.alloc A).alloc B).alloc C).drew).heap[n + 1 + 1]? = some C := by
  subst hs
  show (((W.heap.push A).push B).push C)[W.heap.size]? = _ ∧ (((W.heap.push A).push B).push C)[W.heap.size + 1]? = _ ∧ (((W.heap.push A).push B).push C)[W.heap.size + 1 + 1]? = _
  refine ⟨?_, ?_, ?_⟩
  · rw [Array.getElem?_push, if_neg (by simp; omega), Array.getElem?_push, if_neg (by simp), Array.getElem?_push, if_pos rfl]
  · rw [Array.getElem?_push, if_neg (by simp), Array.getElem?_push, if_pos (by simp)]
  · rw [Array.getElem?_push, if_pos (by simp)]

section
variable {W0 : World} {b : Nat} {f t : Int} {fo : Option Addr} {fn fc : Nat} {to_ : Option Addr} {tn tc : Nat} {x g k : Nat} {MB MT : Array Value} {W W' : World}
theorem cpI_of (Z0 : ZBox W0 b (.int .i64 f) (.int .i64 t) (.slice fo fn fc) (.slice to_ tn tc)) (R0 : Res4 W0 (b + 1)) (hb : Below W0.heap.size W0 W)
    (hx : W.heap[x]? = some (.cells #[.int .i64 f, .int .i64 t, .slice (some ⟨g, 0, none⟩) fn fn, .slice (some ⟨k, 0, none⟩) tn tn] 26 (0, 0)))
    (hg : W.heap[g]? = some (.cells MB 32 (0, 0))) (hk : W.heap[k]? = some (.cells MT 3 (0, 0))) (xg : x ≠ g) (xk : x ≠ k) (gk : g ≠ k) (x2 : b + 2 ≤ x) (g2 : b + 2 ≤ g) (k2 : b + 2 ≤ k) : CpI W0 b f t fo fn fc to_ tn tc x g k MB MT W :=
  ⟨hb, Z0.below hb, R0.below hb, zbox_of_row hx, hg, hk, xg, xk, gk, x2, g2, k2⟩
theorem cpI_423 (Z0 : ZBox W0 b (.int .i64 f) (.int .i64 t) (.slice fo fn fc) (.slice to_ tn tc)) (R0 : Res4 W0 (b + 1)) (hs : W0.heap.size = b + 2) :
    CpI W0 b f t fo fn fc to_ tn tc (b + 2 + 1 + 1) (b + 2) (b + 2 + 1) MB MT ((((W0.alloc (.cells MB 32)).alloc (.cells MT 3)).alloc (.cells #[.int .i64 f, .int .i64 t, .slice (some ⟨b + 2, 0, none⟩) fn fn, .slice (some ⟨b + 2 + 1, 0, none⟩) tn tn] 26)).drew) :=
  cpI_of Z0 R0 (((((Below.refl _ _).alloc (Nat.le_refl _) _).alloc (by simp) _).alloc (by simp; omega) _).drew) (heap3 hs).2.2 (heap3 hs).1 (heap3 hs).2.1 (by omega) (by omega) (by omega) (by omega) (by omega) (by omega)
theorem cpI_324 (Z0 : ZBox W0 b (.int .i64 f) (.int .i64 t) (.slice fo fn fc) (.slice to_ tn tc)) (R0 : Res4 W0 (b + 1)) (hs : W0.heap.size = b + 2) :
    CpI W0 b f t fo fn fc to_ tn tc (b + 2 + 1) (b + 2) (b + 2 + 1 + 1) MB MT ((((W0.alloc (.cells MB 32)).alloc (.cells #[.int .i64 f, .int .i64 t, .slice (some ⟨b + 2, 0, none⟩) fn fn, .slice (some ⟨b + 2 + 1 + 1, 0, none⟩) tn tn] 26)).alloc (.cells MT 3)).drew) :=
  cpI_of Z0 R0 (((((Below.refl _ _).alloc (Nat.le_refl _) _).alloc (by simp) _).alloc (by simp; omega) _).drew) (heap3 hs).2.1 (heap3 hs).1 (heap3 hs).2.2 (by omega) (by omega) (by omega) (by omega) (by omega) (by omega)
theorem cpI_432 (Z0 : ZBox W0 b (.int .i64 f) (.int .i64 t) (.slice fo fn fc) (.slice to_ tn tc)) (R0 : Res4 W0 (b + 1)) (hs : W0.heap.size = b + 2) :
    CpI W0 b f t fo fn fc to_ tn tc (b + 2 + 1 + 1) (b + 2 + 1) (b + 2) MB MT ((((W0.alloc (.cells MT 3)).alloc (.cells MB 32)).alloc (.cells #[.int .i64 f, .int .i64 t, .slice (some ⟨b + 2 + 1, 0, none⟩) fn fn, .slice (some ⟨b + 2, 0, none⟩) tn tn] 26)).drew) :=
  cpI_of Z0 R0 (((((Below.refl _ _).alloc (Nat.le_refl _) _).alloc (by simp) _).alloc (by simp; omega) _).drew) (heap3 hs).2.2 (heap3 hs).2.1 (heap3 hs).1 (by omega) (by omega) (by omega) (by omega) (by omega) (by omega)
theorem cpI_342 (Z0 : ZBox W0 b (.int .i64 f) (.int .i64 t) (.slice fo fn fc) (.slice to_ tn tc)) (R0 : Res4 W0 (b + 1)) (hs : W0.heap.size = b + 2) :
    CpI W0 b f t fo fn fc to_ tn tc (b + 2 + 1) (b + 2 + 1 + 1) (b + 2) MB MT ((((W0.alloc (.cells MT 3)).alloc (.cells #[.int .i64 f, .int .i64 t, .slice (some ⟨b + 2 + 1 + 1, 0, none⟩) fn fn, .slice (some ⟨b + 2, 0, none⟩) tn tn] 26)).alloc (.cells MB 32)).drew) :=
  cpI_of Z0 R0 (((((Below.refl _ _).alloc (Nat.le_refl _) _).alloc (by simp) _).alloc (by simp; omega) _).drew) (heap3 hs).2.1 (heap3 hs).2.2 (heap3 hs).1 (by omega) (by omega) (by omega) (by omega) (by omega) (by omega)
theorem cpI_234 (Z0 : ZBox W0 b (.int .i64 f) (.int .i64 t) (.slice fo fn fc) (.slice to_ tn tc)) (R0 : Res4 W0 (b + 1)) (hs : W0.heap.size = b + 2) :
    CpI W0 b f t fo fn fc to_ tn tc (b + 2) (b + 2 + 1) (b + 2 + 1 + 1) MB MT ((((W0.alloc (.cells #[.int .i64 f, .int .i64 t, .slice (some ⟨b + 2 + 1, 0, none⟩) fn fn, .slice (some ⟨b + 2 + 1 + 1, 0, none⟩) tn tn] 26)).alloc (.cells MB 32)).alloc (.cells MT 3)).drew) :=
  cpI_of Z0 R0 (((((Below.refl _ _).alloc (Nat.le_refl _) _).alloc (by simp) _).alloc (by simp; omega) _).drew) (heap3 hs).1 (heap3 hs).2.1 (heap3 hs).2.2 (by omega) (by omega) (by omega) (by omega) (by omega) (by omega)
theorem cpI_243 (Z0 : ZBox W0 b (.int .i64 f) (.int .i64 t) (.slice fo fn fc) (.slice to_ tn tc)) (R0 : Res4 W0 (b + 1)) (hs : W0.heap.size = b + 2) :
    CpI W0 b f t fo fn fc to_ tn tc (b + 2) (b + 2 + 1 + 1) (b + 2 + 1) MB MT ((((W0.alloc (.cells #[.int .i64 f, .int .i64 t, .slice (some ⟨b + 2 + 1 + 1, 0, none⟩) fn fn, .slice (some ⟨b + 2 + 1, 0, none⟩) tn tn] 26)).alloc (.cells MT 3)).alloc (.cells MB 32)).drew) :=
  cpI_of Z0 R0 (((((Below.refl _ _).alloc (Nat.le_refl _) _).alloc (by simp) _).alloc (by simp; omega) _).drew) (heap3 hs).1 (heap3 hs).2.2 (heap3 hs).2.1 (by omega) (by omega) (by omega) (by omega) (by omega) (by omega)
theorem CpI.copied (h : CpI W0 b f t fo fn fc to_ tn tc x g k MB MT W) (hb : But g W W') {M : Array Value} (hg : W'.heap[g]? = some (.cells M 32 (0, 0))) (hs : W0.heap.size ≤ g) : CpI W0 b f t fo fn fc to_ tn tc x g k M MT W' :=
  ⟨h.b.trans (hb.below hs h.b.size), h.zin.but hb (by have := h.g2; omega), h.res.but hb (by have := h.g2; omega), h.box.but hb h.xg, hg, (hb.block k (Array.getElem?_eq_some_iff.1 h.rk).1 (fun e => h.gk e.symm)).trans h.rk, h.xg, h.xk, h.gk, h.x2, h.g2, h.k2⟩
theorem CpI.copied2 (h : CpI W0 b f t fo fn fc to_ tn tc x g k MB MT W) (hb : But k W W') {M : Array Value} (hg : W'.heap[k]? = some (.cells M 3 (0, 0))) (hs : W0.heap.size ≤ k) : CpI W0 b f t fo fn fc to_ tn tc x g k MB M W' :=
  ⟨h.b.trans (hb.below hs h.b.size), h.zin.but hb (by have := h.k2; omega), h.res.but hb (by have := h.k2; omega), h.box.but hb h.xk, (hb.block g (Array.getElem?_eq_some_iff.1 h.rg).1 h.gk).trans h.rg, hg, h.xg, h.xk, h.gk, h.x2, h.g2, h.k2⟩
theorem CpI.last {LB LT CB CT : List Value} {free : List Bk} {types : List Int} (h : CpI W0 b f t fo fn fc to_ tn tc x g k (splice LB 0 CB).toArray (splice LT 0 CT).toArray W) (eB : CB = bvals free) (eT : CT = vals types) (lB : CB.length = fn * 3) (lT : CT.length = tn * 1) (mB : LB.length = fn * 3) (mT : LT.length = tn * 1) (hmf : fn ≤ maxLen) (hmt : tn ≤ maxLen) :
    W.ownsRow b 32 3 (.slice (some ⟨g, 0, none⟩) fn fn) fn (bvals free) ∧ W.ownsRow b 3 1 (.slice (some ⟨k, 0, none⟩) tn tn) tn (vals types) ∧ g ≠ k := by
  have hg := h.rg
  have hk := h.rk
  rw [splice_all (by omega)] at hg hk
  exact ⟨by rw [← eB]; exact owns_of_row hg (by have := h.g2; omega) lB hmf, by rw [← eT]; exact owns_of_row hk (by have := h.k2; omega) lT hmt, h.gk⟩
end

set_option maxHeartbeats 4000000 in
theorem zCopy_own (w : World) (fo : Option Addr) (fn fc : Nat) (to_ : Option Addr) (tn tc : Nat) (z : Zn) (h : ZnAt w fo fn to_ tn z) :
    Calls Tryd.prog 27 #[.agg #[.int .i64 z.f, .int .i64 z.t, .slice fo fn fc, .slice to_ tn tc]] w fun e w' => ∃ g k, e = .returned (.agg #[.int .i64 z.f, .int .i64 z.t, .slice (some ⟨g, 0, none⟩) fn fn, .slice (some ⟨k, 0, none⟩) tn tn]) ∧
      w'.ownsRow w.heap.size 32 3 (.slice (some ⟨g, 0, none⟩) fn fn) fn (bvals z.free) ∧ w'.ownsRow w.heap.size 3 1 (.slice (some ⟨k, 0, none⟩) tn tn) tn (vals z.types) ∧ g ≠ k ∧ Below w.heap.size w w' := by
  obtain ⟨f, t, free, types⟩ := z
  obtain ⟨hf, ht⟩ := h
  dsimp only at hf ht ⊢
  obtain ⟨i0, hi, hz0, hz1, hz2⟩ := info_parts info_int
  obtain ⟨i1, hj, hy0, hy1, hy2⟩ := info_parts info_block
  have hfr := hf.reach
  have htr := ht.reach
  have hmf : fn ≤ maxLen := by unfold maxLen; omega
  have hmt : tn ≤ maxLen := by unfold maxLen; omega
  obtain ⟨MB, sB, hB⟩ := made_b (P := Tryd.prog) Tryd.underlying23 hj hy0 fn (by rw [hy2]; omega) hmf
  obtain ⟨MT, sT, hT⟩ := made_b (P := Tryd.prog) Tryd.underlying24 hi hz0 tn (by rw [hz2]; omega) hmt
  rw [hy1] at sB
  rw [hz1] at sT
  obtain ⟨W0, hW0⟩ : ∃ W0, (w.alloc (.cells #[.int .i64 f, .int .i64 t, .slice fo fn fc, .slice to_ tn tc] 26)).alloc (.cells #[.int .i64 0, .int .i64 0, .slice none 0 0, .slice none 0 0] 26) = W0 := ⟨_, rfl⟩
  have hb0 : Below w.heap.size w W0 := by rw [← hW0]; exact ((Below.refl _ _).alloc (Nat.le_refl _) _).alloc (by simp) _
  have Z0 : ZBox W0 w.heap.size (.int .i64 f) (.int .i64 t) (.slice fo fn fc) (.slice to_ tn tc) := by rw [← hW0]; exact (zbox_new w _ _ _ _ _).below (below_box _ _)
  have R0 : Res4 W0 (w.heap.size + 1) := by
    rw [← hW0]
    have := zbox_new (w.alloc (.cells #[.int .i64 f, .int .i64 t, .slice fo fn fc, .slice to_ tn tc] 26)) (.int .i64 0) (.int .i64 0) (.slice none 0 0) (.slice none 0 0) 26
    have h2 := this.res
    simpa using h2
  have hs0 : W0.heap.size = w.heap.size + 2 := by rw [← hW0]; simp
  have HW0 : Hid _ := hW0
  have Z1 := Z0
  have R1 := R0
  obtain ⟨CB, hCB⟩ : ∃ CB, CB = bvals free := ⟨_, rfl⟩
  obtain ⟨CT, hCT⟩ : ∃ CT, CT = vals types := ⟨_, rfl⟩
  have lB : CB.length = fn * 3 := by rw [hCB, length_bvals, hf.len]
  have lT : CT.length = tn * 1 := by rw [hCT, length_vals, ht.len, Nat.mul_one]
  have oB : ∀ v ∈ CB, v.oneCell' = true := by rw [hCB]; exact bvals_oneCell _
  have oT : ∀ v ∈ CT, v.oneCell' = true := by rw [hCT]; exact vals_oneCell _
  have HSB : Hid (∀ W, Below W0.heap.size W0 W → 0 < fn → ∃ ad, fo = some ad ∧ ∀ j v, CB[j]? = some v → W.cell? (ad.add j) = some v) := fun W hW h0 => by
    rw [hCB]
    exact bsrc_of ((hf.below hb0).below hW).at_ (by have := hf.len; omega)
  have HST : Hid (∀ W, Below W0.heap.size W0 W → 0 < tn → ∃ ad, to_ = some ad ∧ ∀ j v, CT[j]? = some v → W.cell? (ad.add j) = some v) := fun W hW h0 => by
    rw [hCT]
    exact src_of ((ht.below hb0).below hW).at_ (by have := ht.len; omega)
  have HCB : Hid _ := hCB
  have HCT : Hid _ := hCT
  clear hCB hCT
  have c0 := Z0.c0
  have c1 := Z0.c1
  have c2 := Z0.c2
  have c3 := Z0.c3
  have hsB : Hid (MB.size = fn * 3) := sB
  have hsT : Hid (MT.size = tn * 1) := sT
  clear hW0 sB sT
  go_enter Tryd.func27, Tryd.ntmps27
  go_wp2_with (rw [HW0.out])
  clear HW0
  go_region
  clear Z0 R0 c0 c1 c2 c3 hB hT hf ht
  · have I1 : CpI W0 w.heap.size f t fo fn fc to_ tn tc (w.heap.size + 2 + 1 + 1) (w.heap.size + 2) (w.heap.size + 2 + 1) MB MT _ := cpI_423 Z1 R1 hs0
    generalize World.drew _ = W1 at I1 ⊢
    generalize w.heap.size + 2 + 1 + 1 = n4 at I1 ⊢
    generalize w.heap.size + 2 + 1 = n3 at I1 ⊢
    generalize hn2 : w.heap.size + 2 = n2 at I1 ⊢
    have hx2 := I1.x2
    have hg2 := I1.g2
    have hk2 := I1.k2
    have y2 := I1.box.c2
    have y3 := I1.box.c3
    have q2 := I1.zin.c2
    have q3 := I1.zin.c3
    go_wp2_with (first
      | (refine wpList_copy_k rfl (.tmp 18) (.tmp 20) 23 23 rfl 32 3 Tryd.underlying23 size_block _ _ _ _ _ _ rfl rfl n2 0 MB.toList 32 (by simpa using I1.rg) CB fn (Nat.min_self _) lB (fun h0 => ⟨rfl, HSB.out _ I1.b h0⟩) (by simp only [Array.length_toList]; rw [lB, hsB.out]; omega) oB ?_; intro w2 hg2 hb2; have I2 := I1.copied hb2 hg2.out (by omega); have a3 := I2.box.c3; have b3 := I2.zin.c3)
      | (refine wpList_copy_k rfl (.tmp 23) (.tmp 25) 24 24 rfl 3 1 Tryd.underlying24 size_int _ _ _ _ _ _ rfl rfl n3 0 MT.toList 3 (by simpa using I2.rk) CT tn (Nat.min_self _) lT (fun h0 => ⟨rfl, HST.out _ I2.b h0⟩) (by simp only [Array.length_toList]; rw [lT, hsT.out]; omega) oT ?_; intro w3 hg3 hb3; have I3 := I2.copied2 hb3 hg3.out (by omega); have e0 := I3.box.c0; have e1 := I3.box.c1; have e2 := I3.box.c2; have e3 := I3.box.c3; have R3 := I3.res; obtain ⟨⟨x0, d0⟩, ⟨x1, d1⟩, ⟨x2, d2⟩, ⟨x3, d3⟩, z0, z1, z2, z3⟩ := id R3))
    obtain ⟨o1, o2, o3⟩ := I3.last HCB.out HCT.out lB lT (by rw [Array.length_toList, hsB.out]) (by rw [Array.length_toList, hsT.out]) hmf hmt
    have hB3 := hb0.trans (I3.b.mono (by omega))
    obtain ⟨k0, k1, k2, k3⟩ := res4 R3 (.int .i64 f) (.int .i64 t) (.slice (some ⟨n2, 0, none⟩) fn fn) (.slice (some ⟨n3, 0, none⟩) tn tn)
    have hbt := but4 w3 (w.heap.size + 1) (.int .i64 f) (.int .i64 t) (.slice (some ⟨n2, 0, none⟩) fn fn) (.slice (some ⟨n3, 0, none⟩) tn tn)
    exact bodyPost_ret (v := .agg #[.int .i64 f, .int .i64 t, .slice (some ⟨n2, 0, none⟩) fn fn, .slice (some ⟨n3, 0, none⟩) tn tn]) (by simp [results, Tryd.results27, go_sem, k0, k1, k2, k3]) rfl ⟨n2, n3, rfl, owns_but o1 hbt (by omega), owns_but o2 hbt (by omega), o3, hB3.trans (hbt.below (by omega) hB3.size)⟩
  · have I1 : CpI W0 w.heap.size f t fo fn fc to_ tn tc (w.heap.size + 2 + 1) (w.heap.size + 2) (w.heap.size + 2 + 1 + 1) MB MT _ := cpI_324 Z1 R1 hs0
    generalize World.drew _ = W1 at I1 ⊢
    generalize w.heap.size + 2 + 1 + 1 = n4 at I1 ⊢
    generalize w.heap.size + 2 + 1 = n3 at I1 ⊢
    generalize hn2 : w.heap.size + 2 = n2 at I1 ⊢
    have hx2 := I1.x2
    have hg2 := I1.g2
    have hk2 := I1.k2
    have y2 := I1.box.c2
    have y3 := I1.box.c3
    have q2 := I1.zin.c2
    have q3 := I1.zin.c3
    go_wp2_with (first
      | (refine wpList_copy_k rfl (.tmp 18) (.tmp 20) 23 23 rfl 32 3 Tryd.underlying23 size_block _ _ _ _ _ _ rfl rfl n2 0 MB.toList 32 (by simpa using I1.rg) CB fn (Nat.min_self _) lB (fun h0 => ⟨rfl, HSB.out _ I1.b h0⟩) (by simp only [Array.length_toList]; rw [lB, hsB.out]; omega) oB ?_; intro w2 hg2 hb2; have I2 := I1.copied hb2 hg2.out (by omega); have a3 := I2.box.c3; have b3 := I2.zin.c3)
      | (refine wpList_copy_k rfl (.tmp 23) (.tmp 25) 24 24 rfl 3 1 Tryd.underlying24 size_int _ _ _ _ _ _ rfl rfl n4 0 MT.toList 3 (by simpa using I2.rk) CT tn (Nat.min_self _) lT (fun h0 => ⟨rfl, HST.out _ I2.b h0⟩) (by simp only [Array.length_toList]; rw [lT, hsT.out]; omega) oT ?_; intro w3 hg3 hb3; have I3 := I2.copied2 hb3 hg3.out (by omega); have e0 := I3.box.c0; have e1 := I3.box.c1; have e2 := I3.box.c2; have e3 := I3.box.c3; have R3 := I3.res; obtain ⟨⟨x0, d0⟩, ⟨x1, d1⟩, ⟨x2, d2⟩, ⟨x3, d3⟩, z0, z1, z2, z3⟩ := id R3))
    obtain ⟨o1, o2, o3⟩ := I3.last HCB.out HCT.out lB lT (by rw [Array.length_toList, hsB.out]) (by rw [Array.length_toList, hsT.out]) hmf hmt
    have hB3 := hb0.trans (I3.b.mono (by omega))
    obtain ⟨k0, k1, k2, k3⟩ := res4 R3 (.int .i64 f) (.int .i64 t) (.slice (some ⟨n2, 0, none⟩) fn fn) (.slice (some ⟨n4, 0, none⟩) tn tn)
    have hbt := but4 w3 (w.heap.size + 1) (.int .i64 f) (.int .i64 t) (.slice (some ⟨n2, 0, none⟩) fn fn) (.slice (some ⟨n4, 0, none⟩) tn tn)
    exact bodyPost_ret (v := .agg #[.int .i64 f, .int .i64 t, .slice (some ⟨n2, 0, none⟩) fn fn, .slice (some ⟨n4, 0, none⟩) tn tn]) (by simp [results, Tryd.results27, go_sem, k0, k1, k2, k3]) rfl ⟨n2, n4, rfl, owns_but o1 hbt (by omega), owns_but o2 hbt (by omega), o3, hB3.trans (hbt.below (by omega) hB3.size)⟩
  · have I1 : CpI W0 w.heap.size f t fo fn fc to_ tn tc (w.heap.size + 2 + 1 + 1) (w.heap.size + 2 + 1) (w.heap.size + 2) MB MT _ := cpI_432 Z1 R1 hs0
    generalize World.drew _ = W1 at I1 ⊢
    generalize w.heap.size + 2 + 1 + 1 = n4 at I1 ⊢
    generalize w.heap.size + 2 + 1 = n3 at I1 ⊢
    generalize hn2 : w.heap.size + 2 = n2 at I1 ⊢
    have hx2 := I1.x2
    have hg2 := I1.g2
    have hk2 := I1.k2
    have y2 := I1.box.c2
    have y3 := I1.box.c3
    have q2 := I1.zin.c2
    have q3 := I1.zin.c3
    go_wp2_with (first
      | (refine wpList_copy_k rfl (.tmp 18) (.tmp 20) 23 23 rfl 32 3 Tryd.underlying23 size_block _ _ _ _ _ _ rfl rfl n3 0 MB.toList 32 (by simpa using I1.rg) CB fn (Nat.min_self _) lB (fun h0 => ⟨rfl, HSB.out _ I1.b h0⟩) (by simp only [Array.length_toList]; rw [lB, hsB.out]; omega) oB ?_; intro w2 hg2 hb2; have I2 := I1.copied hb2 hg2.out (by omega); have a3 := I2.box.c3; have b3 := I2.zin.c3)
      | (refine wpList_copy_k rfl (.tmp 23) (.tmp 25) 24 24 rfl 3 1 Tryd.underlying24 size_int _ _ _ _ _ _ rfl rfl n2 0 MT.toList 3 (by simpa using I2.rk) CT tn (Nat.min_self _) lT (fun h0 => ⟨rfl, HST.out _ I2.b h0⟩) (by simp only [Array.length_toList]; rw [lT, hsT.out]; omega) oT ?_; intro w3 hg3 hb3; have I3 := I2.copied2 hb3 hg3.out (by omega); have e0 := I3.box.c0; have e1 := I3.box.c1; have e2 := I3.box.c2; have e3 := I3.box.c3; have R3 := I3.res; obtain ⟨⟨x0, d0⟩, ⟨x1, d1⟩, ⟨x2, d2⟩, ⟨x3, d3⟩, z0, z1, z2, z3⟩ := id R3))
    obtain ⟨o1, o2, o3⟩ := I3.last HCB.out HCT.out lB lT (by rw [Array.length_toList, hsB.out]) (by rw [Array.length_toList, hsT.out]) hmf hmt
    have hB3 := hb0.trans (I3.b.mono (by omega))
    obtain ⟨k0, k1, k2, k3⟩ := res4 R3 (.int .i64 f) (.int .i64 t) (.slice (some ⟨n3, 0, none⟩) fn fn) (.slice (some ⟨n2, 0, none⟩) tn tn)
    have hbt := but4 w3 (w.heap.size + 1) (.int .i64 f) (.int .i64 t) (.slice (some ⟨n3, 0, none⟩) fn fn) (.slice (some ⟨n2, 0, none⟩) tn tn)
    exact bodyPost_ret (v := .agg #[.int .i64 f, .int .i64 t, .slice (some ⟨n3, 0, none⟩) fn fn, .slice (some ⟨n2, 0, none⟩) tn tn]) (by simp [results, Tryd.results27, go_sem, k0, k1, k2, k3]) rfl ⟨n3, n2, rfl, owns_but o1 hbt (by omega), owns_but o2 hbt (by omega), o3, hB3.trans (hbt.below (by omega) hB3.size)⟩
  · have I1 : CpI W0 w.heap.size f t fo fn fc to_ tn tc (w.heap.size + 2 + 1) (w.heap.size + 2 + 1 + 1) (w.heap.size + 2) MB MT _ := cpI_342 Z1 R1 hs0
    generalize World.drew _ = W1 at I1 ⊢
    generalize w.heap.size + 2 + 1 + 1 = n4 at I1 ⊢
    generalize w.heap.size + 2 + 1 = n3 at I1 ⊢
    generalize hn2 : w.heap.size + 2 = n2 at I1 ⊢
    have hx2 := I1.x2
    have hg2 := I1.g2
    have hk2 := I1.k2
    have y2 := I1.box.c2
    have y3 := I1.box.c3
    have q2 := I1.zin.c2
    have q3 := I1.zin.c3
    go_wp2_with (first
      | (refine wpList_copy_k rfl (.tmp 18) (.tmp 20) 23 23 rfl 32 3 Tryd.underlying23 size_block _ _ _ _ _ _ rfl rfl n4 0 MB.toList 32 (by simpa using I1.rg) CB fn (Nat.min_self _) lB (fun h0 => ⟨rfl, HSB.out _ I1.b h0⟩) (by simp only [Array.length_toList]; rw [lB, hsB.out]; omega) oB ?_; intro w2 hg2 hb2; have I2 := I1.copied hb2 hg2.out (by omega); have a3 := I2.box.c3; have b3 := I2.zin.c3)
      | (refine wpList_copy_k rfl (.tmp 23) (.tmp 25) 24 24 rfl 3 1 Tryd.underlying24 size_int _ _ _ _ _ _ rfl rfl n2 0 MT.toList 3 (by simpa using I2.rk) CT tn (Nat.min_self _) lT (fun h0 => ⟨rfl, HST.out _ I2.b h0⟩) (by simp only [Array.length_toList]; rw [lT, hsT.out]; omega) oT ?_; intro w3 hg3 hb3; have I3 := I2.copied2 hb3 hg3.out (by omega); have e0 := I3.box.c0; have e1 := I3.box.c1; have e2 := I3.box.c2; have e3 := I3.box.c3; have R3 := I3.res; obtain ⟨⟨x0, d0⟩, ⟨x1, d1⟩, ⟨x2, d2⟩, ⟨x3, d3⟩, z0, z1, z2, z3⟩ := id R3))
    obtain ⟨o1, o2, o3⟩ := I3.last HCB.out HCT.out lB lT (by rw [Array.length_toList, hsB.out]) (by rw [Array.length_toList, hsT.out]) hmf hmt
    have hB3 := hb0.trans (I3.b.mono (by omega))
    obtain ⟨k0, k1, k2, k3⟩ := res4 R3 (.int .i64 f) (.int .i64 t) (.slice (some ⟨n4, 0, none⟩) fn fn) (.slice (some ⟨n2, 0, none⟩) tn tn)
    have hbt := but4 w3 (w.heap.size + 1) (.int .i64 f) (.int .i64 t) (.slice (some ⟨n4, 0, none⟩) fn fn) (.slice (some ⟨n2, 0, none⟩) tn tn)
    exact bodyPost_ret (v := .agg #[.int .i64 f, .int .i64 t, .slice (some ⟨n4, 0, none⟩) fn fn, .slice (some ⟨n2, 0, none⟩) tn tn]) (by simp [results, Tryd.results27, go_sem, k0, k1, k2, k3]) rfl ⟨n4, n2, rfl, owns_but o1 hbt (by omega), owns_but o2 hbt (by omega), o3, hB3.trans (hbt.below (by omega) hB3.size)⟩
  · have I1 : CpI W0 w.heap.size f t fo fn fc to_ tn tc (w.heap.size + 2) (w.heap.size + 2 + 1) (w.heap.size + 2 + 1 + 1) MB MT _ := cpI_234 Z1 R1 hs0
    generalize World.drew _ = W1 at I1 ⊢
    generalize w.heap.size + 2 + 1 + 1 = n4 at I1 ⊢
    generalize w.heap.size + 2 + 1 = n3 at I1 ⊢
    generalize hn2 : w.heap.size + 2 = n2 at I1 ⊢
    have hx2 := I1.x2
    have hg2 := I1.g2
    have hk2 := I1.k2
    have y2 := I1.box.c2
    have y3 := I1.box.c3
    have q2 := I1.zin.c2
    have q3 := I1.zin.c3
    go_wp2_with (first
      | (refine wpList_copy_k rfl (.tmp 18) (.tmp 20) 23 23 rfl 32 3 Tryd.underlying23 size_block _ _ _ _ _ _ rfl rfl n3 0 MB.toList 32 (by simpa using I1.rg) CB fn (Nat.min_self _) lB (fun h0 => ⟨rfl, HSB.out _ I1.b h0⟩) (by simp only [Array.length_toList]; rw [lB, hsB.out]; omega) oB ?_; intro w2 hg2 hb2; have I2 := I1.copied hb2 hg2.out (by omega); have a3 := I2.box.c3; have b3 := I2.zin.c3)
      | (refine wpList_copy_k rfl (.tmp 23) (.tmp 25) 24 24 rfl 3 1 Tryd.underlying24 size_int _ _ _ _ _ _ rfl rfl n4 0 MT.toList 3 (by simpa using I2.rk) CT tn (Nat.min_self _) lT (fun h0 => ⟨rfl, HST.out _ I2.b h0⟩) (by simp only [Array.length_toList]; rw [lT, hsT.out]; omega) oT ?_; intro w3 hg3 hb3; have I3 := I2.copied2 hb3 hg3.out (by omega); have e0 := I3.box.c0; have e1 := I3.box.c1; have e2 := I3.box.c2; have e3 := I3.box.c3; have R3 := I3.res; obtain ⟨⟨x0, d0⟩, ⟨x1, d1⟩, ⟨x2, d2⟩, ⟨x3, d3⟩, z0, z1, z2, z3⟩ := id R3))
    obtain ⟨o1, o2, o3⟩ := I3.last HCB.out HCT.out lB lT (by rw [Array.length_toList, hsB.out]) (by rw [Array.length_toList, hsT.out]) hmf hmt
    have hB3 := hb0.trans (I3.b.mono (by omega))
    obtain ⟨k0, k1, k2, k3⟩ := res4 R3 (.int .i64 f) (.int .i64 t) (.slice (some ⟨n3, 0, none⟩) fn fn) (.slice (some ⟨n4, 0, none⟩) tn tn)
    have hbt := but4 w3 (w.heap.size + 1) (.int .i64 f) (.int .i64 t) (.slice (some ⟨n3, 0, none⟩) fn fn) (.slice (some ⟨n4, 0, none⟩) tn tn)
    exact bodyPost_ret (v := .agg #[.int .i64 f, .int .i64 t, .slice (some ⟨n3, 0, none⟩) fn fn, .slice (some ⟨n4, 0, none⟩) tn tn]) (by simp [results, Tryd.results27, go_sem, k0, k1, k2, k3]) rfl ⟨n3, n4, rfl, owns_but o1 hbt (by omega), owns_but o2 hbt (by omega), o3, hB3.trans (hbt.below (by omega) hB3.size)⟩
  · have I1 : CpI W0 w.heap.size f t fo fn fc to_ tn tc (w.heap.size + 2) (w.heap.size + 2 + 1 + 1) (w.heap.size + 2 + 1) MB MT _ := cpI_243 Z1 R1 hs0
    generalize World.drew _ = W1 at I1 ⊢
    generalize w.heap.size + 2 + 1 + 1 = n4 at I1 ⊢
    generalize w.heap.size + 2 + 1 = n3 at I1 ⊢
    generalize hn2 : w.heap.size + 2 = n2 at I1 ⊢
    have hx2 := I1.x2
    have hg2 := I1.g2
    have hk2 := I1.k2
    have y2 := I1.box.c2
    have y3 := I1.box.c3
    have q2 := I1.zin.c2
    have q3 := I1.zin.c3
    go_wp2_with (first
      | (refine wpList_copy_k rfl (.tmp 18) (.tmp 20) 23 23 rfl 32 3 Tryd.underlying23 size_block _ _ _ _ _ _ rfl rfl n4 0 MB.toList 32 (by simpa using I1.rg) CB fn (Nat.min_self _) lB (fun h0 => ⟨rfl, HSB.out _ I1.b h0⟩) (by simp only [Array.length_toList]; rw [lB, hsB.out]; omega) oB ?_; intro w2 hg2 hb2; have I2 := I1.copied hb2 hg2.out (by omega); have a3 := I2.box.c3; have b3 := I2.zin.c3)
      | (refine wpList_copy_k rfl (.tmp 23) (.tmp 25) 24 24 rfl 3 1 Tryd.underlying24 size_int _ _ _ _ _ _ rfl rfl n3 0 MT.toList 3 (by simpa using I2.rk) CT tn (Nat.min_self _) lT (fun h0 => ⟨rfl, HST.out _ I2.b h0⟩) (by simp only [Array.length_toList]; rw [lT, hsT.out]; omega) oT ?_; intro w3 hg3 hb3; have I3 := I2.copied2 hb3 hg3.out (by omega); have e0 := I3.box.c0; have e1 := I3.box.c1; have e2 := I3.box.c2; have e3 := I3.box.c3; have R3 := I3.res; obtain ⟨⟨x0, d0⟩, ⟨x1, d1⟩, ⟨x2, d2⟩, ⟨x3, d3⟩, z0, z1, z2, z3⟩ := id R3))
    obtain ⟨o1, o2, o3⟩ := I3.last HCB.out HCT.out lB lT (by rw [Array.length_toList, hsB.out]) (by rw [Array.length_toList, hsT.out]) hmf hmt
    have hB3 := hb0.trans (I3.b.mono (by omega))
    obtain ⟨k0, k1, k2, k3⟩ := res4 R3 (.int .i64 f) (.int .i64 t) (.slice (some ⟨n4, 0, none⟩) fn fn) (.slice (some ⟨n3, 0, none⟩) tn tn)
    have hbt := but4 w3 (w.heap.size + 1) (.int .i64 f) (.int .i64 t) (.slice (some ⟨n4, 0, none⟩) fn fn) (.slice (some ⟨n3, 0, none⟩) tn tn)
    exact bodyPost_ret (v := .agg #[.int .i64 f, .int .i64 t, .slice (some ⟨n4, 0, none⟩) fn fn, .slice (some ⟨n3, 0, none⟩) tn tn]) (by simp [results, Tryd.results27, go_sem, k0, k1, k2, k3]) rfl ⟨n4, n3, rfl, owns_but o1 hbt (by omega), owns_but o2 hbt (by omega), o3, hB3.trans (hbt.below (by omega) hB3.size)⟩

theorem zCopy_any (w : World) (fo : Option Addr) (fn fc : Nat) (to_ : Option Addr) (tn tc : Nat) (z : Zn) (h : ZnAt w fo fn to_ tn z) :
    Calls Tryd.prog 27 #[.agg #[.int .i64 z.f, .int .i64 z.t, .slice fo fn fc, .slice to_ tn tc]] w fun e w' => RetZ w.heap.size w' z e ∧ Below w.heap.size w w' := by
  refine (zCopy_own w fo fn fc to_ tn tc z h).mono ?_
  rintro e w1 ⟨g, k, rfl, o1, o2, _, hb⟩
  exact ⟨⟨_, _, _, _, _, _, rfl, ⟨blks_own o1 h.free.reach, nums_of_owns o2 h.types.reach⟩, owns_fresh o1, owns_fresh o2⟩, hb⟩

end Go.Proofs.YtffhpjjioefaeafDoor

/-
  OWN TEXT. Contracts of slices.IndexFunc and slices.ContainsFunc over blocks, whatever the closure.
-/
namespace Go.Proofs.YtffhpjjioefaeafDoor
open Go Go.RowKit Go.Proofs.YtffhpjjioefaeafDoor.Kit

/-- What the closure does at the blocks of a list, whatever new memory there is. -/
def HoldsB (F : Nat) (caps : Array Value) (l : List Bk) (g : Bk → Bool) (w : World) : Prop :=
  ∀ (i : Nat), i < l.length → ∀ W : World, Below w.heap.size w W → Calls Tryd.prog F (#[Value.agg #[.int .i64 (l.getD i .zero).a, .int .i64 (l.getD i .zero).o, .int .i64 (l.getD i .zero).t]] ++ caps) W fun e W' => e = .returned (.bool (g (l.getD i .zero))) ∧ Below W.heap.size W W'

/-- The first place at which it holds is returned, or -1. -/
def FoundAt (e : Ending) (l : List Bk) (g : Bk → Bool) : Prop :=
  (∃ k : Nat, k < l.length ∧ e = .returned (.int .i64 (k : Int)) ∧ g (l.getD k .zero) = true ∧ ∀ j, j < k → g (l.getD j .zero) = false) ∨ (e = .returned (.int .i64 (-1)) ∧ ∀ j, j < l.length → g (l.getD j .zero) = false)

set_option maxHeartbeats 1000000 in
theorem bIndex_any (w : World) (F : Nat) (caps : Array Value) (ao : Option Addr) (n cap : Nat) (l : List Bk) (g : Bk → Bool) (h : Blks w ao n l)
    (hcall : ∀ args W, (callFunc F args).run Tryd.prog W = .ok (.enter F args) W) (hc : HoldsB F caps l g w) :
    Calls Tryd.prog 35 #[.slice ao n cap, .func (.func F) #[] caps] w fun e w' => FoundAt e l g ∧ Below w.heap.size w w' := by
  have hlen := h.len
  have hrch := h.reach
  go_enter Tryd.func35, Tryd.ntmps35
  go_wp2
  go_loopw [8] (fun i wr => ∃ k : Nat, k ≤ n ∧ i = .int .i64 k ∧ Hid (∀ j, j < k → g (l.getD j .zero) = false) ∧ Below w.heap.size w wr) (fun i _ => n - (intOf i).toNat)
  case atStart => exact ⟨0, Nat.zero_le _, rfl, (fun j hj => absurd hj (Nat.not_lt_zero j)), Below.refl _ _⟩
  case round =>
    obtain ⟨k, hk, rfl, hN, hb⟩ := hrel
    by_cases hlt : k < n
    · obtain ⟨b, o, rfl, c0, c1, c2⟩ := h.at_ k (by omega)
      have hc1 := hc k (by omega) wr hb
      obtain ⟨r, hr⟩ : ∃ r, l.getD k .zero = r := ⟨_, rfl⟩
      have HR : Hid (l.getD k .zero = r) := hr
      rw [hr] at c0 c1 c2 hc1
      clear hr
      obtain ⟨x, y, u⟩ := r
      dsimp only at c0 c1 c2 hc1
      have d0 := keep c0 hb
      have d1 := keep c1 hb
      have d2 := keep c2 hb
      clear c0 c1 c2
      go_wp2_with fail
      refine hc1.mono ?_
      rintro e w1 ⟨rfl, hb1⟩
      have hB := hb.trans (hb1.mono hb.size)
      clear hc1 d0 d1 d2 hc
      cases hg : g ⟨x, y, u⟩ with
      | true =>
        have HT : Hid (g (l.getD k .zero) = true) := by show _ = _; rw [HR.out]; exact hg
        clear hg
        go_wp2
        go_ret
        exact ⟨.inl ⟨k, by omega, rfl, HT.out, hN.out⟩, hB⟩
      | false =>
        have HF : Hid (∀ j, j < k + 1 → g (l.getD j .zero) = false) := fun j hj => by
          by_cases e : j = k
          · rw [e, HR.out]; exact hg
          · exact hN.out j (by omega)
        clear hg hN
        go_wp2
        go_roundw
        case rel => exact ⟨k + 1, by omega, by go_num, HF, hB⟩
        case measure => simp [intOf]; omega
    · have HF : Hid (∀ j, j < l.length → g (l.getD j .zero) = false) := fun j hj => hN.out j (by omega)
      clear hN hc
      go_wp2
      go_ret
      exact ⟨.inr ⟨rfl, HF.out⟩, hb⟩

theorem any_of_found {l : List Bk} {g : Bk → Bool} {k : Nat} (hk : k < l.length) (h : g (l.getD k .zero) = true) : l.any g = true := by
  rw [List.any_eq_true]
  exact ⟨l[k], List.getElem_mem _, by rw [List.getD_eq_getElem?_getD, List.getElem?_eq_getElem hk] at h; exact h⟩
theorem any_of_none {l : List Bk} {g : Bk → Bool} (h : ∀ j, j < l.length → g (l.getD j .zero) = false) : l.any g = false := by
  rw [List.any_eq_false]
  intro x hx
  obtain ⟨i, hi, rfl⟩ := List.getElem_of_mem hx
  have := h i hi
  rw [List.getD_eq_getElem?_getD, List.getElem?_eq_getElem hi] at this
  simp only [Option.getD_some] at this
  simp [this]

end Go.Proofs.YtffhpjjioefaeafDoor

/-
  OWN TEXT. Contract of the code: buddy.choose.
-/
namespace Go.Proofs.YtffhpjjioefaeafDoor
open Go Go.RowKit Go.Proofs.YtffhpjjioefaeafDoor.Kit

theorem found_at {e : Ending} {l : List Bk} {g : Bk → Bool} (h : FoundAt e l g) : e = .returned (.int .i64 (fidx g l)) := by
  rcases h with ⟨k, hk, rfl, h1, h2⟩ | ⟨rfl, h⟩
  · rw [fidx_some hk h1 h2]
  · rw [fidx_none h]

set_option maxHeartbeats 1000000 in
theorem chooseF_any (W : World) (b1 b2 : Nat) (o t : Int) (ba bo bt : Int) (c1 : W.cell? ⟨b1, 0, none⟩ = some (.int .i64 o)) (c2 : W.cell? ⟨b2, 0, none⟩ = some (.int .i64 t)) :
    Calls Tryd.prog 47 (#[.agg #[.int .i64 ba, .int .i64 bo, .int .i64 bt]] ++ #[.pointer (some ⟨b1, 0, none⟩), .pointer (some ⟨b2, 0, none⟩)]) W fun e W' => e = .returned (.bool (isT o t ⟨ba, bo, bt⟩)) ∧ Below W.heap.size W W' := by
  have hb0 := below_box W (.cells #[.int .i64 ba, .int .i64 bo, .int .i64 bt] 32)
  have d1 := keep c1 hb0
  have d2 := keep c2 hb0
  clear c1 c2
  by_cases g1 : bo = o
  · have HF : Hid ((bt == t) = isT o t ⟨ba, bo, bt⟩) := by
      show _ = decide (_ ∧ _)
      rw [show (bt == t) = decide (bt = t) from rfl]
      simp [g1]
    have g1' : (bo == o) = true := by simpa using g1
    clear g1
    go_enter Tryd.func47, Tryd.ntmps47
    go_wp2
    go_ret
    exact ⟨ret_bool HF.out, hb0⟩
  · have HF : Hid (false = isT o t ⟨ba, bo, bt⟩) := by
      show _ = decide (_ ∧ _)
      simp [g1]
    have g1' : (bo == o) = false := by simpa using g1
    clear g1
    go_enter Tryd.func47, Tryd.ntmps47
    go_wp2
    go_ret
    exact ⟨ret_bool HF.out, hb0⟩
theorem chooseF_call (args : Array Value) (W : World) : (callFunc 47 args).run Tryd.prog W = .ok (.enter 47 args) W := by kernel_rfl

set_option maxHeartbeats 1000000 in
theorem chooseL_any (W : World) (fb : Nat) (fo : Option Addr) (fn fc : Nat) (l : List Bk) (o t : Int) (c : W.cell? ⟨fb, 0, none⟩ = some (.slice fo fn fc)) (h : Blks W fo fn l) :
    Calls Tryd.prog 46 (#[.int .i64 o, .int .i64 t] ++ #[.pointer (some ⟨fb, 0, none⟩)]) W fun e W' => e = .returned (.int .i64 (fidx (isT o t) l)) ∧ Below W.heap.size W W' := by
  have hb0 : Below W.heap.size W ((W.alloc (.cells #[.int .i64 o] 3)).alloc (.cells #[.int .i64 t] 3)) := ((Below.refl _ _).alloc (Nat.le_refl _) _).alloc (by simp) _
  have p1 : ((W.alloc (.cells #[.int .i64 o] 3)).alloc (.cells #[.int .i64 t] 3)).cell? ⟨W.heap.size, 0, none⟩ = some (.int .i64 o) := by go_simp
  have p2 : ((W.alloc (.cells #[.int .i64 o] 3)).alloc (.cells #[.int .i64 t] 3)).cell? ⟨W.heap.size + 1, 0, none⟩ = some (.int .i64 t) := by go_simp
  have c' := keep c hb0
  have HI := bIndex_any _ 47 #[.pointer (some ⟨W.heap.size, 0, none⟩), .pointer (some ⟨W.heap.size + 1, 0, none⟩)] fo fn fc l (isT o t) (h.below hb0) chooseF_call (fun i hi V hb => chooseF_any V _ _ o t _ _ _ (keep p1 hb) (keep p2 hb))
  go_enter Tryd.func46, Tryd.ntmps46
  go_wp2_with fail
  go_at_call 35
  refine HI.mono ?_
  rintro e w1 ⟨hf, hb⟩
  obtain rfl := found_at hf
  clear HI
  go_wp2
  go_ret
  exact ⟨rfl, hb0.trans (hb.mono hb0.size)⟩
theorem chooseL_call (args : Array Value) (W : World) : (callFunc 46 args).run Tryd.prog W = .ok (.enter 46 args) W := by kernel_rfl

theorem ix0 (W : World) (x y : Int) : (Instr.index 73 (.agg #[.int .i64 x, .int .i64 y]) (.int .i64 0)).run Tryd.prog W = .ok (.int .i64 x) W := by
  kernel_rfl
theorem ix1 (W : World) (x y : Int) : (Instr.index 73 (.agg #[.int .i64 x, .int .i64 y]) (.int .i64 1)).run Tryd.prog W = .ok (.int .i64 y) W := by
  kernel_rfl

/-- Which types are asked instead, as the package's table has them. -/
structure TabAt (w : World) : Prop where
  a0 : w.cell? ⟨0, 0, none⟩ = some (.int .i64 2)
  a1 : w.cell? ⟨0, 1, none⟩ = some (.int .i64 1)
  a2 : w.cell? ⟨0, 2, none⟩ = some (.int .i64 2)
  a3 : w.cell? ⟨0, 3, none⟩ = some (.int .i64 0)
  a4 : w.cell? ⟨0, 4, none⟩ = some (.int .i64 0)
  a5 : w.cell? ⟨0, 5, none⟩ = some (.int .i64 1)
theorem TabAt.below {w w' : World} (h : TabAt w) (hb : Below w.heap.size w w') : TabAt w' := ⟨keep h.a0 hb, keep h.a1 hb, keep h.a2 hb, keep h.a3 hb, keep h.a4 hb, keep h.a5 hb⟩

set_option maxHeartbeats 4000000 in
theorem choose_any (w : World) (fo : Option Addr) (fn fc : Nat) (l : List Bk) (o t : Int) (h : Blks w fo fn l) (hT : TabAt w) (ho : ordOk o) (ht : typeOk t) :
    Calls Tryd.prog 31 #[.slice fo fn fc, .int .i64 o, .int .i64 t] w fun e w' => e = .returned (.int .i64 (chooseI l o t)) ∧ Below w.heap.size w w' := by
  obtain ⟨o0, o4⟩ := ho
  obtain ⟨t0, t2⟩ := ht
  have i0 := ix0
  have i1 := ix1
  have hb0 := below_box w (.cells #[.slice fo fn fc] 23)
  have p1 : (w.alloc (.cells #[.slice fo fn fc] 23)).cell? ⟨w.heap.size, 0, none⟩ = some (.slice fo fn fc) := by go_simp
  obtain ⟨W0, hW0⟩ : ∃ W0, w.alloc (.cells #[.slice fo fn fc] 23) = W0 := ⟨_, rfl⟩
  rw [hW0] at hb0 p1
  have HW0 : Hid _ := hW0
  have hB0 := h.below hb0
  have T0 := hT.below hb0
  obtain ⟨U, hU⟩ : ∃ U, upI l t (5 - o).toNat o = U := ⟨_, rfl⟩
  have HU : Hid (upI l t (5 - o).toNat o = U) := hU
  obtain ⟨D, hD⟩ : ∃ D, dnI l (other1 t) (other2 t) o (5 - o).toNat = D := ⟨_, rfl⟩
  have HD : Hid (dnI l (other1 t) (other2 t) o (5 - o).toNat = D) := hD
  have HCh : Hid (chooseI l o t = if 0 ≤ U then U else D) := by show _ = _; unfold chooseI; rw [hU, hD]
  clear hD
  clear hW0 hU
  go_enter Tryd.func31, Tryd.ntmps31
  go_wp2_with (rw [HW0.out])
  clear HW0
  go_loopw [8] (fun ov wr => ∃ O : Int, ov = .int .i64 O ∧ o ≤ O ∧ O ≤ 5 ∧ Hid (upI l t (5 - O).toNat O = U) ∧ Below W0.heap.size W0 wr) (fun ov _ => (5 - intOf ov).toNat)
  case atStart => exact ⟨o, rfl, by omega, by omega, HU, Below.refl _ _⟩
  case round =>
    obtain ⟨O, rfl, h1, h2, hG, hb⟩ := hrel
    clear HU
    have pW := keep p1 hb
    by_cases hlt : O ≤ 4
    · have HL := chooseL_any wr w.heap.size fo fn fc l O t pW (hB0.below hb)
      obtain ⟨m, hm⟩ : ∃ m, (5 - O).toNat = m + 1 := ⟨(5 - O).toNat - 1, by omega⟩
      have hm2 : (5 - (O + 1)).toNat = m := by omega
      have hG1 : Hid ((if 0 ≤ fidx (isT O t) l then fidx (isT O t) l else upI l t m (O + 1)) = U) := by have := hG.out; rw [hm] at this; exact this
      obtain ⟨X, hX⟩ : ∃ X, fidx (isT O t) l = X := ⟨_, rfl⟩
      rw [hX] at HL hG1
      clear hG hX
      go_wp2_with fail
      go_at_call 46
      refine HL.mono ?_
      rintro e w1 ⟨rfl, hb1⟩
      have hb' := hb.trans (hb1.mono hb.size)
      clear HL
      by_cases hx : 0 ≤ X
      · have HR : Hid (X = chooseI l o t) := by
          show _ = _
          have hUX : X = U := by have := hG1.out; rw [if_pos hx] at this; exact this
          rw [HCh.out, ← hUX, if_pos hx]
        clear hG1
        go_wp2
        go_ret
        exact ⟨by rw [HR.out]; rfl, hb0.trans (hb'.mono hb0.size)⟩
      · have hG2 : Hid (upI l t (5 - (O + 1)).toNat (O + 1) = U) := by
          show _ = _
          rw [hm2, ← hG1.out, if_neg hx]
        clear hG1
        go_wp2
        go_roundw
        case rel => exact ⟨O + 1, by go_num, by omega, by omega, hG2, hb'⟩
        case measure => simp [intOf]; omega
    · have HC2 : Hid (chooseI l o t = D) := by
        show _ = _
        have hU1 : U = -1 := by have := hG.out; rw [show (5 - O).toNat = 0 by omega] at this; exact this.symm
        rw [HCh.out, hU1]
        rfl
      clear HCh hG
      go_wp2
      go_loopw [10] (fun ov wq => ∃ (n : Nat) (P : Int), ov = .int .i64 P ∧ P = o + n - 1 ∧ P ≤ 4 ∧ Hid (dnI l (other1 t) (other2 t) o n = D) ∧ Below W0.heap.size W0 wq) (fun ov _ => (intOf ov + 1).toNat)
      case atStart => exact ⟨(5 - o).toNat, 4, rfl, by omega, by omega, HD, hb⟩
      case round =>
        obtain ⟨n, P, rfl, hP, hP4, hN, hbq⟩ := hrel
        clear HD
        have pQ := keep p1 hbq
        have TQ := T0.below hbq
        have HP : Hid (P = o + n - 1) := hP
        by_cases hge : o ≤ P
        · obtain ⟨m, rfl⟩ : ∃ m, n = m + 1 := ⟨n - 1, by omega⟩
          have hPm : P = o + m := by omega
          have HPm : Hid (P = o + m) := hPm
          clear hP HP
          rcases (show t = 0 ∨ t = 1 ∨ t = 2 by omega) with rfl | rfl | rfl
          · obtain ⟨X, hX⟩ : ∃ X, fidx (isT P 2) l = X := ⟨_, rfl⟩
            obtain ⟨Y, hY⟩ : ∃ Y, fidx (isT P 1) l = Y := ⟨_, rfl⟩
            have hN1 : Hid ((if 0 ≤ X then X else if 0 ≤ Y then Y else dnI l 2 1 o m) = D) := by
              show _ = _
              have := hN.out
              rw [← hX, ← hY, hPm]
              exact this
            have HLX : Hid (∀ W, Below W0.heap.size W0 W → Calls Tryd.prog 46 (#[.int .i64 P, .int .i64 2] ++ #[.pointer (some ⟨w.heap.size, 0, none⟩)]) W fun e W' => e = .returned (.int .i64 X) ∧ Below W.heap.size W W') := fun W hW => by rw [← hX]; exact chooseL_any W w.heap.size fo fn fc l P 2 (keep p1 hW) (hB0.below hW)
            have HLY : Hid (∀ W, Below W0.heap.size W0 W → Calls Tryd.prog 46 (#[.int .i64 P, .int .i64 1] ++ #[.pointer (some ⟨w.heap.size, 0, none⟩)]) W fun e W' => e = .returned (.int .i64 Y) ∧ Below W.heap.size W W') := fun W hW => by rw [← hY]; exact chooseL_any W w.heap.size fo fn fc l P 1 (keep p1 hW) (hB0.below hW)
            have ta := TQ.a0
            have tb := TQ.a1
            clear hX hY hN hPm pQ
            go_wp2
            clear ta tb
            go_loopw [35] (fun kv wi => ∃ k : Nat, k ≤ 2 ∧ kv = .int .i64 k ∧ (1 ≤ k → X < 0) ∧ (2 ≤ k → Y < 0) ∧ Below W0.heap.size W0 wi) (fun kv _ => 2 - (intOf kv).toNat)
            case atStart => exact ⟨0, by omega, rfl, fun g => by omega, fun g => by omega, hbq⟩
            case round =>
              obtain ⟨k, hk, rfl, hk1, hk2, hbi⟩ := hrel
              rcases (show k = 0 ∨ k = 1 ∨ k = 2 by omega) with rfl | rfl | rfl
              · go_wp2_with fail
                go_at_call 46
                refine (HLX.out _ hbi).mono ?_
                rintro e w1 ⟨rfl, hb1⟩
                have hb' := hbi.trans (hb1.mono hbi.size)
                by_cases hx : 0 ≤ X
                · have HR : Hid (X = chooseI l o 0) := by show _ = _; have := hN1.out; rw [if_pos hx] at this; rw [HC2.out]; exact this
                  clear hN1 HLX HLY
                  go_wp2
                  go_ret
                  exact ⟨by rw [HR.out]; rfl, hb0.trans (hb'.mono hb0.size)⟩
                · clear HLX HLY
                  go_wp2
                  go_roundw
                  case rel => exact ⟨1, by omega, by go_num, fun _ => by omega, fun g => by omega, hb'⟩
                  case measure => simp [intOf]
              · have hx := hk1 (by omega)
                go_wp2_with fail
                go_at_call 46
                refine (HLY.out _ hbi).mono ?_
                rintro e w1 ⟨rfl, hb1⟩
                have hb' := hbi.trans (hb1.mono hbi.size)
                by_cases hy : 0 ≤ Y
                · have HR : Hid (Y = chooseI l o 0) := by show _ = _; have := hN1.out; rw [if_neg (by omega), if_pos hy] at this; rw [HC2.out]; exact this
                  clear hN1 HLX HLY
                  go_wp2
                  go_ret
                  exact ⟨by rw [HR.out]; rfl, hb0.trans (hb'.mono hb0.size)⟩
                · clear HLX HLY
                  go_wp2
                  go_roundw
                  case rel => exact ⟨2, by omega, by go_num, fun _ => by omega, fun _ => by omega, hb'⟩
                  case measure => simp [intOf]
              · have hx := hk1 (by omega)
                have hy := hk2 (by omega)
                have hN2 : Hid (dnI l 2 1 o m = D) := by show _ = _; have := hN1.out; rw [if_neg (by omega), if_neg (by omega)] at this; exact this
                clear hN1 HLX HLY
                go_wp2
                go_roundw
                case rel => exact ⟨m, P - 1, by go_num, by have := HPm.out; omega, by omega, hN2, hbi⟩
                case measure => simp [intOf]; omega
          · obtain ⟨X, hX⟩ : ∃ X, fidx (isT P 2) l = X := ⟨_, rfl⟩
            obtain ⟨Y, hY⟩ : ∃ Y, fidx (isT P 0) l = Y := ⟨_, rfl⟩
            have hN1 : Hid ((if 0 ≤ X then X else if 0 ≤ Y then Y else dnI l 2 0 o m) = D) := by
              show _ = _
              have := hN.out
              rw [← hX, ← hY, hPm]
              exact this
            have HLX : Hid (∀ W, Below W0.heap.size W0 W → Calls Tryd.prog 46 (#[.int .i64 P, .int .i64 2] ++ #[.pointer (some ⟨w.heap.size, 0, none⟩)]) W fun e W' => e = .returned (.int .i64 X) ∧ Below W.heap.size W W') := fun W hW => by rw [← hX]; exact chooseL_any W w.heap.size fo fn fc l P 2 (keep p1 hW) (hB0.below hW)
            have HLY : Hid (∀ W, Below W0.heap.size W0 W → Calls Tryd.prog 46 (#[.int .i64 P, .int .i64 0] ++ #[.pointer (some ⟨w.heap.size, 0, none⟩)]) W fun e W' => e = .returned (.int .i64 Y) ∧ Below W.heap.size W W') := fun W hW => by rw [← hY]; exact chooseL_any W w.heap.size fo fn fc l P 0 (keep p1 hW) (hB0.below hW)
            have ta := TQ.a2
            have tb := TQ.a3
            clear hX hY hN hPm pQ
            go_wp2
            clear ta tb
            go_loopw [35] (fun kv wi => ∃ k : Nat, k ≤ 2 ∧ kv = .int .i64 k ∧ (1 ≤ k → X < 0) ∧ (2 ≤ k → Y < 0) ∧ Below W0.heap.size W0 wi) (fun kv _ => 2 - (intOf kv).toNat)
            case atStart => exact ⟨0, by omega, rfl, fun g => by omega, fun g => by omega, hbq⟩
            case round =>
              obtain ⟨k, hk, rfl, hk1, hk2, hbi⟩ := hrel
              rcases (show k = 0 ∨ k = 1 ∨ k = 2 by omega) with rfl | rfl | rfl
              · go_wp2_with fail
                go_at_call 46
                refine (HLX.out _ hbi).mono ?_
                rintro e w1 ⟨rfl, hb1⟩
                have hb' := hbi.trans (hb1.mono hbi.size)
                by_cases hx : 0 ≤ X
                · have HR : Hid (X = chooseI l o 1) := by show _ = _; have := hN1.out; rw [if_pos hx] at this; rw [HC2.out]; exact this
                  clear hN1 HLX HLY
                  go_wp2
                  go_ret
                  exact ⟨by rw [HR.out]; rfl, hb0.trans (hb'.mono hb0.size)⟩
                · clear HLX HLY
                  go_wp2
                  go_roundw
                  case rel => exact ⟨1, by omega, by go_num, fun _ => by omega, fun g => by omega, hb'⟩
                  case measure => simp [intOf]
              · have hx := hk1 (by omega)
                go_wp2_with fail
                go_at_call 46
                refine (HLY.out _ hbi).mono ?_
                rintro e w1 ⟨rfl, hb1⟩
                have hb' := hbi.trans (hb1.mono hbi.size)
                by_cases hy : 0 ≤ Y
                · have HR : Hid (Y = chooseI l o 1) := by show _ = _; have := hN1.out; rw [if_neg (by omega), if_pos hy] at this; rw [HC2.out]; exact this
                  clear hN1 HLX HLY
                  go_wp2
                  go_ret
                  exact ⟨by rw [HR.out]; rfl, hb0.trans (hb'.mono hb0.size)⟩
                · clear HLX HLY
                  go_wp2
                  go_roundw
                  case rel => exact ⟨2, by omega, by go_num, fun _ => by omega, fun _ => by omega, hb'⟩
                  case measure => simp [intOf]
              · have hx := hk1 (by omega)
                have hy := hk2 (by omega)
                have hN2 : Hid (dnI l 2 0 o m = D) := by show _ = _; have := hN1.out; rw [if_neg (by omega), if_neg (by omega)] at this; exact this
                clear hN1 HLX HLY
                go_wp2
                go_roundw
                case rel => exact ⟨m, P - 1, by go_num, by have := HPm.out; omega, by omega, hN2, hbi⟩
                case measure => simp [intOf]; omega
          · obtain ⟨X, hX⟩ : ∃ X, fidx (isT P 0) l = X := ⟨_, rfl⟩
            obtain ⟨Y, hY⟩ : ∃ Y, fidx (isT P 1) l = Y := ⟨_, rfl⟩
            have hN1 : Hid ((if 0 ≤ X then X else if 0 ≤ Y then Y else dnI l 0 1 o m) = D) := by
              show _ = _
              have := hN.out
              rw [← hX, ← hY, hPm]
              exact this
            have HLX : Hid (∀ W, Below W0.heap.size W0 W → Calls Tryd.prog 46 (#[.int .i64 P, .int .i64 0] ++ #[.pointer (some ⟨w.heap.size, 0, none⟩)]) W fun e W' => e = .returned (.int .i64 X) ∧ Below W.heap.size W W') := fun W hW => by rw [← hX]; exact chooseL_any W w.heap.size fo fn fc l P 0 (keep p1 hW) (hB0.below hW)
            have HLY : Hid (∀ W, Below W0.heap.size W0 W → Calls Tryd.prog 46 (#[.int .i64 P, .int .i64 1] ++ #[.pointer (some ⟨w.heap.size, 0, none⟩)]) W fun e W' => e = .returned (.int .i64 Y) ∧ Below W.heap.size W W') := fun W hW => by rw [← hY]; exact chooseL_any W w.heap.size fo fn fc l P 1 (keep p1 hW) (hB0.below hW)
            have ta := TQ.a4
            have tb := TQ.a5
            clear hX hY hN hPm pQ
            go_wp2
            clear ta tb
            go_loopw [35] (fun kv wi => ∃ k : Nat, k ≤ 2 ∧ kv = .int .i64 k ∧ (1 ≤ k → X < 0) ∧ (2 ≤ k → Y < 0) ∧ Below W0.heap.size W0 wi) (fun kv _ => 2 - (intOf kv).toNat)
            case atStart => exact ⟨0, by omega, rfl, fun g => by omega, fun g => by omega, hbq⟩
            case round =>
              obtain ⟨k, hk, rfl, hk1, hk2, hbi⟩ := hrel
              rcases (show k = 0 ∨ k = 1 ∨ k = 2 by omega) with rfl | rfl | rfl
              · go_wp2_with fail
                go_at_call 46
                refine (HLX.out _ hbi).mono ?_
                rintro e w1 ⟨rfl, hb1⟩
                have hb' := hbi.trans (hb1.mono hbi.size)
                by_cases hx : 0 ≤ X
                · have HR : Hid (X = chooseI l o 2) := by show _ = _; have := hN1.out; rw [if_pos hx] at this; rw [HC2.out]; exact this
                  clear hN1 HLX HLY
                  go_wp2
                  go_ret
                  exact ⟨by rw [HR.out]; rfl, hb0.trans (hb'.mono hb0.size)⟩
                · clear HLX HLY
                  go_wp2
                  go_roundw
                  case rel => exact ⟨1, by omega, by go_num, fun _ => by omega, fun g => by omega, hb'⟩
                  case measure => simp [intOf]
              · have hx := hk1 (by omega)
                go_wp2_with fail
                go_at_call 46
                refine (HLY.out _ hbi).mono ?_
                rintro e w1 ⟨rfl, hb1⟩
                have hb' := hbi.trans (hb1.mono hbi.size)
                by_cases hy : 0 ≤ Y
                · have HR : Hid (Y = chooseI l o 2) := by show _ = _; have := hN1.out; rw [if_neg (by omega), if_pos hy] at this; rw [HC2.out]; exact this
                  clear hN1 HLX HLY
                  go_wp2
                  go_ret
                  exact ⟨by rw [HR.out]; rfl, hb0.trans (hb'.mono hb0.size)⟩
                · clear HLX HLY
                  go_wp2
                  go_roundw
                  case rel => exact ⟨2, by omega, by go_num, fun _ => by omega, fun _ => by omega, hb'⟩
                  case measure => simp [intOf]
              · have hx := hk1 (by omega)
                have hy := hk2 (by omega)
                have hN2 : Hid (dnI l 0 1 o m = D) := by show _ = _; have := hN1.out; rw [if_neg (by omega), if_neg (by omega)] at this; exact this
                clear hN1 HLX HLY
                go_wp2
                go_roundw
                case rel => exact ⟨m, P - 1, by go_num, by have := HPm.out; omega, by omega, hN2, hbi⟩
                case measure => simp [intOf]; omega
        · have hn0 : n = 0 := by omega
          have HR : Hid (-1 = chooseI l o t) := by show _ = _; have := hN.out; rw [hn0] at this; rw [HC2.out]; exact this
          clear hN hP
          go_wp2
          go_ret
          exact ⟨by rw [← HR.out]; rfl, hb0.trans (hbq.mono hb0.size)⟩

end Go.Proofs.YtffhpjjioefaeafDoor
