/-
  OWN TEXTS, bundled: BRep4, BRep5, BRep6, ZcTakeS, ZcTake1, ZcTake2, ZcTake, RefI.
-/
import Derived.Test.YtpfafhgllabhbaaDoorBuddyTakesPart7
import Derived.Test.YtpfafhgllabhbaaDoorBuddyTakesPart4
import Derived.Test.YtpfafhgllabhbaaDoorBuddyTakesPart5
import Derived.Test.YtpfafhgllabhbaaDoorBuddyTakesPart1

/-
  OWN TEXT. slices.Replace of one block by some, in the middle: there is no room.
-/
namespace Go.Proofs.YtpfafhgllabhbaaDoor
open Go Go.RowKit Go.Proofs.YtpfafhgllabhbaaDoor.Kit

set_option maxRecDepth 10000 in
set_option maxHeartbeats 1000000 in
theorem bRep_grow (w : World) (base g N cap i m vc : Nat) (vo : Option Addr) (l vl : List Bk) (cur vs XS : List Value) (h : RepIn w base g N cap i m vc vo l vl cur vs XS) (hi : i < N) (hroom : cap < N + m) :
    Calls Tryd.prog 18 #[.slice (some ⟨g, 0, none⟩) (N + 1) cap, .int .i64 i, .int .i64 ((i : Int) + 1), .slice vo m vc] w fun e w' => RetRow w w' base g (N + m) (repB l i vl) e := by
  obtain ⟨i1, hj, hy0, hy1, hy2⟩ := info_parts info_block
  have R := h.row
  have hM := R.m
  unfold maxLen at hM
  have hRl := R.len
  have hvl := h.vsl
  have hxl := h.xl
  have hN := h.N3
  have hm4 := h.m4
  have hle := h.le
  have b1 : ((i : Int) == (i : Int) + 1) = false := by simp; omega
  have b2 : ((i : Int) + 1 == (N : Int) + 1) = false := by simp; omega
  have b3 : (i : Int) + 1 ≤ (N : Int) + 1 := by omega
  have b4 : ((i : Int) + 1).toNat = i + 1 := by omega
  have b5 : (0 : Int) ≤ (i : Int) + 1 := by omega
  have b6 : IntKind.i64.wrap ((i : Int) + m) = (i : Int) + m := IntWalk.i64_in _ (by omega)
  have b7 : ((i : Int) + m).toNat = i + m := by omega
  have b8 : (0 : Int) ≤ (i : Int) + m := by omega
  have b9 : (i : Int) + m ≤ (i : Int) + m + ((N - i : Nat) : Int) := by omega
  have b11 : ¬ (cap = i + 1) := by omega
  have b12 : ¬ (cap = i) := by omega
  have b13 : (cap : Int) < (i : Int) + m + ((N - i : Nat) : Int) := by omega
  obtain ⟨K, hK⟩ : ∃ K : Nat, (i : Int) + m + ((N - i : Nat) : Int) - i = (K : Int) := ⟨m + (N - i), by omega⟩
  have hKn : K = m + (N - i) := by omega
  have hgr : ∀ W : World, Below w.heap.size w W → W.heap.size = w.heap.size → _ := fun W hW hWs => grow_zeros (P := Tryd.prog) W 22 3 22 42 i1 _ 3 .i64 .i64 Tryd.underlying22 Tryd.underlying3 hj hy0 hy1 (by omega) rfl ⟨g, 0, none⟩ i cap (cur.take (i * 3)) (by rw [List.length_take]; omega) (fun j v hj => by
    rw [add_at, Nat.zero_add, (R.below hW).cell]
    rw [List.getElem?_take] at hj
    split at hj
    · exact hj
    · cases hj) K (by omega) (by omega) (by unfold maxLen; omega) (by rw [hy2]; omega)
  have HG : Hid _ := hgr
  have HKN : Hid _ := hKn
  have H : Hid _ := h
  clear h hgr hKn
  go_enter Tryd.func18, Tryd.ntmps18
  go_wp2_with fail
  go_quiet (fail)
  have hbd : Below w.heap.size w (w.drewN nq) := below_drawn (w := w) nq
  obtain ⟨cap', W, cur', hrun, R', ht, hc', hb'⟩ := HG.out (w.drewN nq) hbd (by simp)
  have hiK : i + K = N + m := by have := HKN.out; omega
  have HR : Hid _ := hrun
  have HIK : Hid _ := hiK
  have hcl' := R'.len
  have hsd : (w.drewN nq).heap.size = w.heap.size := by simp
  rw [hsd] at R' hb'
  have hbW : Below w.heap.size w W := hbd.trans (hb'.mono (by omega))
  have RW := R.below hbW
  have c1 : ¬ (cap' = i) := by omega
  have c2 : ¬ (cap' = i + m) := by omega
  have hKs : ∀ k, k < w.heap.size → k ≠ g → W.heap[k]? = w.heap[k]? := fun k hk hne => hbW.block k hk
  clear hrun HG hiK
  go_wp2_with (first
    | (at_builtin; refine Lib.wpList_append_run _ rfl (.tmp 63) (.tmp 66) 22 3 rfl _ _ rfl rfl _ _ HR.out ?_)
    | (refine wpList_copy_k rfl (.tmp 70) (.tmp 71) 22 22 rfl 42 3 Tryd.underlying22 size_block _ _ _ _ _ _ rfl rfl w.heap.size (i * 3) cur' 42 R'.h vs m (by have := HKN.out; simp only [Nat.min_def]; split <;> omega) hvl (fun h0 => ⟨by simp, H.out.src hKs h0⟩) (by have := HIK.out; omega) H.out.v1 ?_; intro w2 hg2 hb2))
  have RD := (RW.but hb2 (by have := R.lt; omega)).below (Below.refl w2.heap.size w2).drew
  have hgd : w2.drew.heap[w.heap.size]? = some (.cells (splice cur' (i * 3) vs).toArray 42 (0, 0)) := hg2.out
  have b14 : (i : Int) + m ≤ (i : Int) + K := by have := HKN.out; omega
  have b15 : (m : Int) ≤ (K : Int) := by have := HKN.out; omega
  go_region_law (refine step_copy_k rfl (.tmp 78) (.tmp 81) 22 22 rfl 42 3 Tryd.underlying22 size_block (some ⟨w.heap.size, (i + m) * 3, none⟩) (some ⟨g, (i + 1) * 3, none⟩) (i + K - (i + m)) (cap' - (i + m)) (N - i) (cap - (i + 1)) (by simp [Act.eval, Act.put]) (by simp [Act.eval, Act.put]) w.heap.size ((i + m) * 3) (splice cur' (i * 3) vs) 42 hgd XS (N - i) (by have := HKN.out; simp only [Nat.min_def]; split <;> omega) hxl (fun _ => ⟨rfl, _, rfl, fun j v hj => by rw [add_at, RD.cell]; exact H.out.xat j v hj⟩) (by have := HIK.out; rw [length_splice _ _ _ (by omega)]; omega) H.out.x1 ?_; intro w3 hg3 hb3)
  all_goals
    clear RD
    have hik := HIK.out
    go_wp2_with fail
    go_ret
    have e3 : (i + m) * 3 = i * 3 + vs.length := by omega
    have hl2 : (splice (splice cur' (i * 3) vs) ((i + m) * 3) XS).length = cap' * 3 := by rw [length_splice _ _ _ (by rw [length_splice _ _ _ (by omega)]; omega), length_splice _ _ _ (by omega)]; exact hcl'
    have R2 : Row w3 42 3 w.heap.size cap' (splice (splice cur' (i * 3) vs) ((i + m) * 3) XS) := ⟨hg3.out, hl2, R'.m⟩
    try rw [HIK.out]
    refine ⟨w.heap.size, cap', rfl, R2.owns (by have := H.out.bg; have := R.lt; omega) (by omega) ?_, ?_, .inr (Nat.le_refl _)⟩
    · rw [H.out.out, e3, show (N + m) * 3 = i * 3 + vs.length + XS.length by omega, splice_two_a (by omega), ht]
    · have hbl : Below w.heap.size w w3 := hbW.trans ((hb2.trans ((But.of_below (Below.refl _ _).drew).trans hb3)).below (Nat.le_refl _) hbW.size)
      exact .of_below hbl

end Go.Proofs.YtpfafhgllabhbaaDoor

/-
  OWN TEXT. slices.Replace of the last block by some.
-/
namespace Go.Proofs.YtpfafhgllabhbaaDoor
open Go Go.RowKit Go.Proofs.YtpfafhgllabhbaaDoor.Kit

theorem grown_but {w w' : World} {g : Nat} (h : w.grownBy w' (some g)) : But g w w' :=
  ⟨h.os, h.tape, h.output, h.size, fun k hk hne => h.block k hk (by intro g; exact hne (by simpa using g))⟩

set_option maxRecDepth 10000 in
set_option maxHeartbeats 1000000 in
theorem bRep_end (w : World) (base g N cap i m vc : Nat) (vo : Option Addr) (l vl : List Bk) (cur vs XS : List Value) (h : RepIn w base g N cap i m vc vo l vl cur vs XS) (hi : i = N) :
    Calls Tryd.prog 18 #[.slice (some ⟨g, 0, none⟩) (N + 1) cap, .int .i64 i, .int .i64 ((i : Int) + 1), .slice vo m vc] w fun e w' => RetRow w w' base g (N + m) (repB l i vl) e := by
  obtain ⟨i1, hj, hy0, hy1, hy2⟩ := info_parts info_block
  subst hi
  have R := h.row
  have hM := R.m
  have hml : i + m ≤ maxLen := by have := h.N3; have := h.m4; unfold maxLen; omega
  unfold maxLen at hM
  have hRl := R.len
  have hvl := h.vsl
  have hN := h.N3
  have hm4 := h.m4
  have hle := h.le
  have hX : XS = [] := List.eq_nil_of_length_eq_zero (by rw [h.xl]; omega)
  have HO : Hid (bvals (repB l i vl) = bvals (l.take i) ++ vs) := by show _ = _; rw [h.out, h.tk, hX, List.append_nil]
  have own : w.ownsRow base 42 3 (.slice (some ⟨g, 0, none⟩) i cap) i (bvals (l.take i)) := R.owns h.bg (by omega) h.tk
  have hv0 := h.v0
  have hv1 := h.v1
  have hsrc : ∀ ad, vo = some ad → ∀ j u, vs[j]? = some u → w.cell? (ad.add j) = some u := fun ad he j u hu => by
    by_cases h0 : 0 < m
    · obtain ⟨ad', he', hc⟩ := h.src (W := w) (fun k _ _ => rfl) h0
      rw [he] at he'
      cases he'
      exact hc j u hu
    · have : vs = [] := List.eq_nil_of_length_eq_zero (by rw [hvl]; omega)
      rw [this] at hu
      cases hu
  have hbg := h.bg
  have b1 : ((i : Int) == (i : Int) + 1) = false := by simp; omega
  have b2 : ((i : Int) + 1 == (i : Int) + 1) = true := by simp
  have b3 : (i : Int) + 1 ≤ (i : Int) + 1 := by omega
  have b4 : ((i : Int) + 1).toNat = i + 1 := by omega
  have b5 : (0 : Int) ≤ (i : Int) + 1 := by omega
  have b12 : ¬ (cap = i) := by omega
  have HV0 : Hid _ := hv0
  have HSRC : Hid _ := hsrc
  clear h hX hv0 hsrc
  by_cases hroom : i + m ≤ cap
  · by_cases h0 : m = 0
    · subst h0
      go_enter Tryd.func18, Tryd.ntmps18
      go_wp2_with (first
        | (at_builtin; refine wpList_append_fits_any _ rfl (.tmp 32) (.tmp 33) 22 rfl base 42 i1 3 Tryd.underlying22 hj hy1 g i cap (bvals (l.take i)) rfl own vo 0 vc vs rfl hvl HV0.out HSRC.out hv1 hroom ?_; intro w1 ho1 hb1; obtain ⟨_, _, cur1, R1, hcur1⟩ := Row.of ho1; have hl1 := R1.len)
        | (refine wpList_clear_k rfl (.tmp 43) 22 rfl 42 _ 3 Tryd.underlying22 zero_block rfl zero_one _ _ _ rfl g (i * 3) cur1 R1.h (fun _ => rfl) (by omega) ?_; intro w2 cur2 hg2 hb2))
      go_ret
      obtain ⟨g1, g2, g3⟩ := hg2.out
      have R2 : Row w2 42 3 g cap cur2 := ⟨g1, by rw [g2]; exact hl1, R1.m⟩
      exact ⟨g, cap, rfl, R2.owns hbg (by omega) (by rw [HO.out, ← hcur1]; exact g3), (grown_but hb1).trans hb2, .inl rfl⟩
    · have c1 : ((i : Int) + m < (i : Int) + 1) = False := eq_false (by omega)
      go_enter Tryd.func18, Tryd.ntmps18
      go_wp2_with (at_builtin; refine wpList_append_fits_any _ rfl (.tmp 32) (.tmp 33) 22 rfl base 42 i1 3 Tryd.underlying22 hj hy1 g i cap (bvals (l.take i)) rfl own vo m vc vs rfl hvl HV0.out HSRC.out hv1 hroom ?_; intro w1 ho1 hb1)
      all_goals
        go_ret
        exact ⟨g, cap, rfl, by rw [HO.out]; exact ho1, grown_but hb1, .inl rfl⟩
  · have h0 : 0 < m := by omega
    cases vo with
    | none => have := HV0.out rfl; omega
    | some ad =>
      have hold : ∀ j v, (bvals (l.take i))[j]? = some v → w.cell? ((⟨g, 0, none⟩ : Addr).add j) = some v := own.cells rfl
      obtain ⟨cap', W, cur', hrun, R', ht, hc', hb'⟩ := grow_some (P := Tryd.prog) w 22 22 42 i1 _ 3 Tryd.underlying22 hj hy0 hy1 rfl ⟨g, 0, none⟩ i cap (bvals (l.take i)) own.1 hold ad m vc vs hvl (HSRC.out ad rfl) (by omega) hml (by rw [hy2]; omega)
      have ow' := R'.owns (base := base) (n := i + m) (by have := R.lt; omega) hc' ht
      have HR : Hid _ := hrun
      have c1 : ((i : Int) + m < (i : Int) + 1) = False := eq_false (by omega)
      clear hrun
      go_enter Tryd.func18, Tryd.ntmps18
      go_wp2_with (at_builtin; refine Lib.wpList_append_run _ rfl (.tmp 32) (.tmp 33) 22 22 rfl _ _ rfl rfl _ _ HR.out ?_)
      all_goals
        go_ret
        exact ⟨w.heap.size, cap', rfl, by rw [HO.out]; exact ow', .of_below hb', .inr (Nat.le_refl _)⟩

end Go.Proofs.YtpfafhgllabhbaaDoor

/-
  OWN TEXT. slices.Replace of one block by some: all ways.
-/
namespace Go.Proofs.YtpfafhgllabhbaaDoor
open Go Go.RowKit Go.Proofs.YtpfafhgllabhbaaDoor.Kit

theorem bRep_any (w : World) (base g N cap i m vc bv : Nat) (vo : Option Addr) (l vl : List Bk) (hi : i ≤ N) (hN : N ≤ 300) (hm : m ≤ 4) (own : w.ownsRow base 42 3 (.slice (some ⟨g, 0, none⟩) (N + 1) cap) (N + 1) (bvals l)) (ov : w.ownsRow bv 42 3 (.slice vo m vc) m (bvals vl)) (hne : g < bv) :
    Calls Tryd.prog 18 #[.slice (some ⟨g, 0, none⟩) (N + 1) cap, .int .i64 i, .int .i64 ((i : Int) + 1), .slice vo m vc] w fun e w' => RetRow w w' base g (N + m) (repB l i vl) e := by
  obtain ⟨cur, vs, XS, h⟩ := repIn w base g N cap i m vc vo l vl hi hN hm own bv ov hne
  by_cases h1 : i = N
  · exact bRep_end w base g N cap i m vc vo l vl cur vs XS h h1
  · by_cases h2 : cap < N + m
    · exact bRep_grow w base g N cap i m vc vo l vl cur vs XS h (by omega) h2
    · by_cases h3 : m ≤ 1
      · exact bRep_less w base g N cap i m vc vo l vl cur vs XS h (by omega) h3
      · exact bRep_shift w base g N cap i m vc vo l vl cur vs XS h (by omega) (by omega) (by omega)

end Go.Proofs.YtpfafhgllabhbaaDoor

/-
  OWN TEXT. Small facts for buddy.Take.
-/
namespace Go.Proofs.YtpfafhgllabhbaaDoor
open Go Go.RowKit Go.Proofs.YtpfafhgllabhbaaDoor.Kit

theorem blk_end {t a o : Int} (ho : ordOk o) (h1 : a ≤ t - 1) (h2 : a % pw o = 0) (h3 : t % 16 = 0) : a + pw o ≤ t := by
  rcases ord_cases ho with ⟨rfl, e⟩ | ⟨rfl, e⟩ | ⟨rfl, e⟩ | ⟨rfl, e⟩ | ⟨rfl, e⟩ <;> rw [e] at h2 ⊢ <;> omega

theorem own_at {w : World} {base g n cap : Nat} {l : List Bk} (h : w.ownsRow base 42 3 (.slice (some ⟨g, 0, none⟩) n cap) n (bvals l)) {i : Nat} (hi : i < n) {a o t : Int} (hb : l.getD i .zero = ⟨a, o, t⟩) :
    w.cell? ⟨g, i * 3, none⟩ = some (.int .i64 a) ∧ w.cell? ⟨g, i * 3 + 1, none⟩ = some (.int .i64 o) ∧ w.cell? ⟨g, i * 3 + 2, none⟩ = some (.int .i64 t) := by
  obtain ⟨b, off, e, h1, h2, h3⟩ := blks_of_owns h i (by rw [bowns_len h]; exact hi)
  simp only [Option.some.injEq, Addr.mk.injEq, and_true] at e
  obtain ⟨rfl, rfl⟩ := e
  rw [hb] at h1 h2 h3
  simp only [Nat.zero_add] at h1 h2 h3
  exact ⟨h1, h2, h3⟩

theorem tbox_new' (W : World) (q : Bk) (t : TypeId) : (W.alloc (.cells #[.int .i64 q.a, .int .i64 q.o, .int .i64 q.t] t)).cell? ⟨W.heap.size, 0, none⟩ = some (.int .i64 q.a) ∧ (W.alloc (.cells #[.int .i64 q.a, .int .i64 q.o, .int .i64 q.t] t)).cell? ⟨W.heap.size, 1, none⟩ = some (.int .i64 q.o) ∧ (W.alloc (.cells #[.int .i64 q.a, .int .i64 q.o, .int .i64 q.t] t)).cell? ⟨W.heap.size, 2, none⟩ = some (.int .i64 q.t) := ⟨by simp, by simp, by simp⟩

/-- The stolen block has the type. -/
theorem HB6s (z : Zn) (F L : Nat) (t : Int) {i : Nat} {ba bo bt : Int} (hb : z.free.getD i .zero = ⟨ba, bo, bt⟩) (hi : i < z.free.length) (hF : (ba - z.f) / 8 = (F : Int)) (hL : (ba + pw bo - 1 - z.f) / 8 = (L : Int)) : (z.free.map (stealB z.f F L t)).getD i .zero = ⟨ba, bo, t⟩ := by
  rw [map_getD _ hi, hb]
  have hp := pw_pos bo
  unfold stealB
  dsimp only
  rw [if_pos ⟨by omega, by omega⟩]

/-- What the last statement but one of Take reads. -/
structure TkF (zb bb g n cap : Nat) (ba bo t : Int) (W : World) : Prop where
  c : W.cell? ⟨zb, 2, none⟩ = some (.slice (some ⟨g, 0, none⟩) n cap)
  e0 : W.cell? ⟨bb, 0, none⟩ = some (.int .i64 ba)
  e1 : W.cell? ⟨bb, 1, none⟩ = some (.int .i64 bo)
  e2 : W.cell? ⟨bb, 2, none⟩ = some (.int .i64 t)
theorem TkF.below {zb bb g n cap : Nat} {ba bo t : Int} {W W' : World} (h : TkF zb bb g n cap ba bo t W) (hb : Below W.heap.size W W') : TkF zb bb g n cap ba bo t W' := ⟨keep h.c hb, keep h.e0 hb, keep h.e1 hb, keep h.e2 hb⟩
theorem TkF.but {zb bb g n cap c : Nat} {ba bo t : Int} {W W' : World} (h : TkF zb bb g n cap ba bo t W) (hb : But c W W') (h1 : zb ≠ c) (h2 : bb ≠ c) : TkF zb bb g n cap ba bo t W' := ⟨hb.cell h.c h1, hb.cell h.e0 h2, hb.cell h.e1 h2, hb.cell h.e2 h2⟩

end Go.Proofs.YtpfafhgllabhbaaDoor

/-
  OWN TEXT. Contract of the code: buddy.Take, no group is stolen.
-/
namespace Go.Proofs.YtpfafhgllabhbaaDoor
open Go Go.RowKit Go.Proofs.YtpfafhgllabhbaaDoor.Kit

set_option maxRecDepth 4000 in
set_option maxHeartbeats 8000000 in
theorem zTake_plain (w : World) (fo : Option Addr) (N fc : Nat) (to_ : Option Addr) (tn tc : Nat) (z : Zn) (o t ba bo bt : Int) (i : Nat) (h : ZnAt w fo (N + 1) to_ tn z) (hM : ZMay z) (hT : TabAt w) (ho : ordOk o) (ht : typeOk t) (hC : chooseI z.free o t = i) (hiN : i ≤ N) (hb : z.free.getD i .zero = ⟨ba, bo, bt⟩) (hob : o ≤ bo) (hst : (bt == t) = true ∨ bo < 2) :
    Calls Tryd.prog 6 #[.agg #[.int .i64 z.f, .int .i64 z.t, .slice fo (N + 1) fc, .slice to_ tn tc], .int .i64 o, .int .i64 t] w fun e w' => RetZone3 w.heap.size w' ⟨z.f, z.t, repB z.free i (halvesL ba bt o (bo - o).toNat), z.types⟩ ba e ∧ Below w.heap.size w w' := by
  have I0 := cbI_first w fo (N + 1) fc to_ tn tc z h
  have c0 := I0.box.c0
  have c1 := I0.box.c1
  have c2 := I0.box.c2
  have c3 := I0.box.c3
  have hlen : z.free.length = N + 1 := h.free.len
  have hbl := may_len hM
  have htr := h.types.reach
  have hN3 : N ≤ 300 := by omega
  obtain ⟨n1, n2, n3, n4, n5⟩ := hM.new
  obtain ⟨⟨o0, o4⟩, a1, a2, a3⟩ := (freeOk_at hM.free (k := i) (by omega) hb).1
  dsimp only at o0 o4 a1 a2 a3
  have htl : tn ≤ 300 := by have h1 := hM.len; have h2 : z.types.length = tn := h.types.len; omega
  have HAll : Hid (∀ b ∈ z.free, z.f ≤ b.a ∧ b.a ≤ 256) := fun b hb => by obtain ⟨_, q1, q2, _⟩ := may_blk hM b hb; omega
  have HEnd : Hid (ba + pw bo ≤ 256) := by
    show _ ≤ _
    have hp := blk_end (o := bo) ⟨o0, o4⟩ a2 a3 n5
    omega
  have HB : Hid _ := hb
  have HC : Hid _ := hC
  have HL : Hid _ := hlen
  have HO : Hid (inB o 0 4 = true) := inB_t ho
  have HT : Hid (inB t 0 2 = true) := inB_t ht
  have k1 : ¬ ((i : Int) < 0) := by omega
  have k2 : (i : Int) < (N : Int) + 1 := by omega
  have k3 : IntKind.i64.wrap ((i : Int) + 1) = (i : Int) + 1 := IntWalk.i64_in _ (by omega)
  clear h hb hC hlen
  go_enter Tryd.func6, Tryd.ntmps6
  go_wp2_with fail
  go_at_call 10
  refine (zCheck_ok _ fo (N + 1) fc to_ tn tc z I0.zn hM).mono ?_
  rintro e w1 ⟨rfl, hb⟩
  have I1 := I0.step hb
  clear I0 hb c0 c1 c2 c3
  have c0 := I1.box.c0
  have c1 := I1.box.c1
  have c2 := I1.box.c2
  have c3 := I1.box.c3
  go_wp2_with fail
  go_at_call 14
  refine (isOrder_any _ o).mono ?_
  rintro e wq ⟨rfl, rfl⟩
  rw [HO.out]
  go_wp2_with fail
  go_at_call 15
  refine (isType_any _ t).mono ?_
  rintro e wq ⟨rfl, rfl⟩
  rw [HT.out]
  go_wp2_with fail
  go_at_call 16
  refine (choose_any _ fo (N + 1) fc z.free o t I1.zn.free (hT.below I1.b) ho ht).mono ?_
  rintro e w2 ⟨rfl, hb2⟩
  rw [HC.out]
  have I2 := I1.step hb2
  clear I1 hb2 c0 c1 c2 c3
  have c0 := I2.box.c0
  have c1 := I2.box.c1
  have c2 := I2.box.c2
  have c3 := I2.box.c3
  go_wp2_with fail
  go_at_call 11
  refine (zCopy_own _ fo (N + 1) fc to_ tn tc z I2.zn).mono ?_
  rintro e w3 ⟨g, k, rfl, o1, o2, hgk, hb3⟩
  have I3 := I2.step hb3
  have hf1 := owns_fresh o1 _ rfl
  have hf2 := owns_fresh o2 _ rfl
  have Z4 := zo_new o1 o2 hgk
  have hbx := below_box w3 (.cells #[.int .i64 z.f, .int .i64 z.t, .slice (some ⟨g, 0, none⟩) (N + 1) (N + 1), .slice (some ⟨k, 0, none⟩) tn tn] 25)
  have I4 := I3.step hbx
  have hs2 := I2.size
  have hs3 := I3.size
  obtain ⟨W4, hW4⟩ : ∃ W4, w3.alloc (.cells #[.int .i64 z.f, .int .i64 z.t, .slice (some ⟨g, 0, none⟩) (N + 1) (N + 1), .slice (some ⟨k, 0, none⟩) tn tn] 25) = W4 := ⟨_, rfl⟩
  rw [hW4] at I4 Z4
  have HW4 : Hid _ := hW4
  dsimp only at hf1 hf2
  have hgl := Z4.glt
  have hkl := Z4.klt
  have hzl := Z4.box.lt
  obtain ⟨d0, d1, d2⟩ := own_at Z4.own (i := i) (by omega) HB.out
  have y2 := Z4.box.c2
  have hb5 := below_box W4 (.cells #[.int .i64 ba, .int .i64 bo, .int .i64 bt] 42)
  have I5 := I4.step hb5
  have Z5 := Z4.below hb5
  have T5 := tbox_new' W4 ⟨ba, bo, bt⟩ 42
  have hs5 : W4.heap.size < (W4.alloc (.cells #[.int .i64 ba, .int .i64 bo, .int .i64 bt] 42)).heap.size := by simp
  obtain ⟨W5, hW5⟩ : ∃ W5, W4.alloc (.cells #[.int .i64 ba, .int .i64 bo, .int .i64 bt] 42) = W5 := ⟨_, rfl⟩
  dsimp only at T5
  rw [hW5] at I5 Z5 T5 hs5
  have HW5 : Hid _ := hW5
  obtain ⟨e0, e1, e2⟩ := T5
  have y5 := Z5.box.c2
  obtain ⟨f0, f1, f2⟩ := own_at Z5.own (i := i) (by omega) HB.out
  clear I2 I3 hb3 c0 c1 c2 c3 o1 o2 hbx hW4 hW5 hb5
  have hst' : (bt == t) = true ∨ ((bt == t) = false ∧ ¬ (2 ≤ bo)) := by
    cases s1 : (bt == t) with
    | true => exact .inl rfl
    | false => rw [s1] at hst; exact .inr ⟨rfl, by rcases hst with q | q; cases q; omega⟩
  clear hst
  have R5 := I5.res
  have B5 := I5.b
  have hf3 : w.heap.size + 2 ≤ W5.heap.size := I5.size
  rcases hst' with s1 | ⟨s1, s2⟩
  · have s3 : (bt != t) = false := by simpa using s1
    clear I5
    go_wp2_with (first | rw [HW4.out] | rw [HW5.out])
    clear s1 s3 I4 Z4 HW4 HW5 d0 d1 d2 e0 e1 e2 y2
    have hb7 := below_box W5 (.cells #[.int .i64 ba, .int .i64 bo, .int .i64 bt] 42)
    have Z7 := Z5.below hb7
    have R7 := R5.below hb7
    have B7 := B5.trans (hb7.mono B5.size)
    have T7 := tbox_new' W5 ⟨ba, bo, bt⟩ 42
    have hs7 : W5.heap.size < (W5.alloc (.cells #[.int .i64 ba, .int .i64 bo, .int .i64 bt] 42)).heap.size := by simp
    have gz7 := Z5.gz
    have kz7 := Z5.kz
    have gk7 := Z5.gk
    have hz7 := Z5.box.lt
    have hg7 := Z5.glt
    have hk7 := Z5.klt
    dsimp only at T7
    obtain ⟨W7, hW7⟩ : ∃ W7, W5.alloc (.cells #[.int .i64 ba, .int .i64 bo, .int .i64 bt] 42) = W7 := ⟨_, rfl⟩
    rw [hW7] at Z7 R7 B7 T7 hs7 ⊢
    obtain ⟨g0, g1, g2⟩ := T7
    have S0 : TkF w3.heap.size W5.heap.size g (N + 1) (N + 1) ba bo bt W7 := ⟨Z7.box.c2, g0, g1, g2⟩
    have S1 := S0.below (Below.refl W7.heap.size W7).drew
    have hBd := (Below.refl W7.heap.size W7).drew
    have m1 : ∀ wx, TkF w3.heap.size W5.heap.size g (N + 1) (N + 1) ba bo bt wx → wx.cell? ⟨w3.heap.size, 2, none⟩ = some (.slice (some ⟨g, 0, none⟩) (N + 1) (N + 1)) := fun wx h => h.c
    have m2 : ∀ wx, TkF w3.heap.size W5.heap.size g (N + 1) (N + 1) ba bo bt wx → wx.cell? ⟨W5.heap.size, 0, none⟩ = some (.int .i64 ba) := fun wx h => h.e0
    have m3 : ∀ wx, TkF w3.heap.size W5.heap.size g (N + 1) (N + 1) ba bo bt wx → wx.cell? ⟨W5.heap.size, 1, none⟩ = some (.int .i64 bo) := fun wx h => h.e1
    have m4 : ∀ wx, TkF w3.heap.size W5.heap.size g (N + 1) (N + 1) ba bo bt wx → wx.cell? ⟨W5.heap.size, 2, none⟩ = some (.int .i64 bt) := fun wx h => h.e2
    have HH : Hid (∀ V, Below W7.heap.size W7 V → Calls Tryd.prog 19 #[.agg #[.int .i64 ba, .int .i64 bo, .int .i64 bt], .int .i64 o] V fun e w' => ∃ v, e = .returned v ∧ w'.ownsRow W7.heap.size 42 3 v (bo - o).toNat (bvals (halvesL ba bt o (bo - o).toNat)) ∧ Below W7.heap.size W7 w') := fun V hV => by
      refine (halves_any V ba bo bt o ⟨o0, o4⟩ ho.1 hob (by omega) (by omega)).mono ?_
      rintro e w' ⟨v, rfl, ow, hb⟩
      exact ⟨v, rfl, owns_weaken ow hV.size, hV.trans (hb.mono hV.size)⟩
    have HR : Hid (∀ V vo vc, Below W7.heap.size W7 V → V.ownsRow W7.heap.size 42 3 (.slice vo (bo - o).toNat vc) (bo - o).toNat (bvals (halvesL ba bt o (bo - o).toNat)) → Calls Tryd.prog 18 #[.slice (some ⟨g, 0, none⟩) (N + 1) (N + 1), .int .i64 i, .int .i64 ((i : Int) + 1), .slice vo (bo - o).toNat vc] V fun e w' => RetRow V w' w2.heap.size g (N + (bo - o).toNat) (repB z.free i (halvesL ba bt o (bo - o).toNat)) e) := fun V vo vc hV ov =>
      bRep_any V w2.heap.size g N (N + 1) i (bo - o).toNat vc W7.heap.size vo z.free (halvesL ba bt o (bo - o).toNat) hiN hN3 (by have := ho.1; omega) (owns_below Z7.own hV (Nat.le_refl _)) ov (by omega)
    go_wp2_with fail
    refine wp_region_peel (S := fun wx => TkF w3.heap.size W5.heap.size g (N + 1) (N + 1) ba bo bt wx) 10 _ (by kernel_rfl) (by kernel_rfl) rfl ?_
    simp only [List.take_succ_cons, List.take_zero]
    refine takeH 0 (v := .pointer (some ⟨w3.heap.size, 2, none⟩)) rfl (by kernel_rfl) (by kernel_rfl) (by kernel_rfl) (fun _ _ _ h => h) rfl (fun wx hSx => ?_) S1 ?_
    · go_simp
    try simp only [Act.put, List.setIfInBounds_toArray, List.set_cons_zero, List.set_cons_succ]
    refine takeH 1 (v := .slice (some ⟨g, 0, none⟩) (N + 1) (N + 1)) rfl (by kernel_rfl) (by kernel_rfl) (by kernel_rfl) (fun _ _ _ h => h) rfl (fun wx hSx => ?_) S1 ?_
    · go_simp
    try simp only [Act.put, List.setIfInBounds_toArray, List.set_cons_zero, List.set_cons_succ]
    refine takeH 2 (v := .int .i64 (i : Int)) rfl (by kernel_rfl) (by kernel_rfl) (by kernel_rfl) (fun _ _ _ h => h) rfl (fun wx hSx => ?_) S1 ?_
    · go_simp
    try simp only [Act.put, List.setIfInBounds_toArray, List.set_cons_zero, List.set_cons_succ]
    refine takeH 3 (v := .int .i64 (i : Int)) rfl (by kernel_rfl) (by kernel_rfl) (by kernel_rfl) (fun _ _ _ h => h) rfl (fun wx hSx => ?_) S1 ?_
    · go_simp
    try simp only [Act.put, List.setIfInBounds_toArray, List.set_cons_zero, List.set_cons_succ]
    refine takeH 4 (v := .int .i64 ((i : Int) + 1)) rfl (by kernel_rfl) (by kernel_rfl) (by kernel_rfl) (fun _ _ _ h => h) rfl (fun wx hSx => ?_) S1 ?_
    · go_simp
    try simp only [Act.put, List.setIfInBounds_toArray, List.set_cons_zero, List.set_cons_succ]
    refine takeH 5 (v := .agg #[.int .i64 ba, .int .i64 bo, .int .i64 bt]) rfl (by kernel_rfl) (by kernel_rfl) (by kernel_rfl) (fun _ _ _ h => h) rfl (fun wx hSx => ?_) S1 ?_
    · go_simp
    try simp only [Act.put, List.setIfInBounds_toArray, List.set_cons_zero, List.set_cons_succ]
    refine takeH 6 (v := .int .i64 o) rfl (by kernel_rfl) (by kernel_rfl) (by kernel_rfl) (fun _ _ _ h => h) rfl (fun wx hSx => ?_) S1 ?_
    · go_simp
    try simp only [Act.put, List.setIfInBounds_toArray, List.set_cons_zero, List.set_cons_succ]
    refine oneH 7 (by kernel_rfl) rfl rfl (fun K1 hK1 => ?_)
    go_simp
    refine (HH.out _ hBd).mono ?_
    rintro e w8 ⟨v, rfl, ow8, hb8⟩
    obtain ⟨vo, vc, rfl⟩ := owns_shape ow8
    have hS8 := S0.below hb8
    refine hK1 _ _ hS8 ?_
    try simp only [Act.put, List.setIfInBounds_toArray, List.set_cons_zero, List.set_cons_succ]
    refine oneH 8 (by kernel_rfl) rfl rfl (fun K2 hK2 => ?_)
    go_simp
    refine (HR.out _ vo vc hb8 ow8).mono ?_
    rintro e w9 ⟨g', cap', rfl, ow9, hb9, hg9⟩
    have hS9 := hS8.but hb9 (by omega) (by omega)
    have X9 := (Z7.box.below hb8).but hb9 (by omega)
    refine hK2 _ _ hS9 ?_
    try simp only [Act.put, List.setIfInBounds_toArray, List.set_cons_zero, List.set_cons_succ]
    refine takeH 9 (v := .pointer (some ⟨w3.heap.size, 2, none⟩)) rfl (by kernel_rfl) (by kernel_rfl) (by kernel_rfl) (fun _ _ _ h => h) rfl (fun wx hSx => ?_) hS9 ?_
    · go_simp
    try simp only [Act.put, List.setIfInBounds_toArray, List.set_cons_zero, List.set_cons_succ]
    refine wpAnyH_done (by kernel_rfl) ?_ _
    show Oper.wp _ _ _ _ _ _
    have x2 := X9.c2
    have x2z := X9.z2
    have hg9' : g' = g ∨ W7.heap.size ≤ g' := by rcases hg9 with q | q; exact .inl q; exact .inr (Nat.le_trans hb8.size q)
    have hbt : But w3.heap.size w9 (w9.setCell ⟨w3.heap.size, 2, none⟩ (.slice (some ⟨g', 0, none⟩) (N + (bo - o).toNat) cap')) := (But.refl _ _).setCell _
    have X10 := X9.set2 (.slice (some ⟨g', 0, none⟩) (N + (bo - o).toNat) cap')
    have R10 := ((R7.below hb8).but hb9 (by omega)).but hbt (by omega)
    have q0 := hbt.cell hS9.e0 (by omega)
    have ow10 := own_but ow9 hbt (by omega)
    have ty10 := own_but (own_but (owns_below Z7.typ hb8 (Nat.le_refl _)) hb9 (Ne.symm gk7)) hbt (by omega)
    have B10 : Below w.heap.size w (w9.setCell ⟨w3.heap.size, 2, none⟩ (.slice (some ⟨g', 0, none⟩) (N + (bo - o).toNat) cap')) := B7.trans ((hb8.mono (B7.size)).trans ((hb9.below (by omega) (Nat.le_trans B7.size hb8.size)).trans (hbt.below (by omega) (Nat.le_trans B7.size (Nat.le_trans hb8.size hb9.size)))))
    have hs9 : W7.heap.size ≤ (w9.setCell ⟨w3.heap.size, 2, none⟩ (.slice (some ⟨g', 0, none⟩) (N + (bo - o).toNat) cap')).heap.size := Nat.le_trans hb8.size (Nat.le_trans hb9.size hbt.size)
    obtain ⟨w10, hw10⟩ : ∃ w10, w9.setCell ⟨w3.heap.size, 2, none⟩ (.slice (some ⟨g', 0, none⟩) (N + (bo - o).toNat) cap') = w10 := ⟨_, rfl⟩
    rw [hw10] at X10 R10 q0 ow10 ty10 B10 hs9
    have HW10 : Hid _ := hw10
    obtain ⟨p0, p1, p2, p3, _, _, _, _⟩ := id X10
    obtain ⟨⟨u0, d0⟩, ⟨u1, d1⟩, ⟨u2, d2⟩, ⟨u3, d3⟩, z0, z1, z2, z3⟩ := id R10
    clear hw10 hbt HH HR m1 m2 m3 m4 S0 S1 hS8 hS9 X9 R7 Z7 hb8 hb9 ow8 ow9 B7 hBd g0 g1 g2
    go_wp2_with (rw [HW10.out])
    have ne1 : ¬ (W5.heap.size = w.heap.size + 1) := by omega
    have ne2 : ¬ (w.heap.size + 1 = W5.heap.size) := by omega
    have RD := R10.below (Below.refl w10.heap.size w10).drew
    obtain ⟨k0, k1, k2, k3⟩ := res4 R10 (.int .i64 z.f) (.int .i64 z.t) (.slice (some ⟨g', 0, none⟩) (N + (bo - o).toNat) cap') (.slice (some ⟨k, 0, none⟩) tn tn)
    have hbt := but4 w10.drew (w.heap.size + 1) (.int .i64 z.f) (.int .i64 z.t) (.slice (some ⟨g', 0, none⟩) (N + (bo - o).toNat) cap') (.slice (some ⟨k, 0, none⟩) tn tn)
    have Bl : Below w10.heap.size w10 w10.drew := (Below.refl w10.heap.size w10).drew
    have BF := blks_own (owns_below ow10 Bl (Nat.le_refl _)) (by have := ho.1; omega)
    have NF := nums_of_owns (owns_below ty10 Bl (Nat.le_refl _)) htr
    have BB := (B10.trans (Bl.mono B10.size)).trans (hbt.below (B := w.heap.size) (by omega) (Nat.le_trans B10.size Bl.size))
    have FIN : RetZone3 w.heap.size ((((w10.drew.setCell ⟨w.heap.size + 1, 0, none⟩ (.int .i64 z.f)).setCell ⟨w.heap.size + 1, 1, none⟩ (.int .i64 z.t)).setCell ⟨w.heap.size + 1, 2, none⟩ (.slice (some ⟨g', 0, none⟩) (N + (bo - o).toNat) cap')).setCell ⟨w.heap.size + 1, 3, none⟩ (.slice (some ⟨k, 0, none⟩) tn tn)) ⟨z.f, z.t, repB z.free i (halvesL ba bt o (bo - o).toNat), z.types⟩ ba (.returned (.tuple #[.agg #[.int .i64 z.f, .int .i64 z.t, .slice (some ⟨g', 0, none⟩) (N + (bo - o).toNat) cap', .slice (some ⟨k, 0, none⟩) tn tn], .int .i64 ba, .int .i64 0])) := ⟨_, _, _, _, _, _, rfl, hbt.zn ⟨BF, NF⟩ (fun a ha => by cases ha; dsimp only; omega) (fun a ha => by cases ha; dsimp only; omega), fun a ha => by cases ha; dsimp only; omega, fun a ha => by cases ha; dsimp only; omega⟩
    have HFIN : Hid _ := FIN
    have HBB : Hid _ := BB
    clear FIN BB BF NF X10 ow10 ty10 B10 R10 RD hbt Bl
    go_region
    all_goals
      try go_wp2_with fail
      exact bodyPost_ret (v := .tuple #[.agg #[.int .i64 z.f, .int .i64 z.t, .slice (some ⟨g', 0, none⟩) (N + (bo - o).toNat) cap', .slice (some ⟨k, 0, none⟩) tn tn], .int .i64 ba, .int .i64 0]) (by simp [results, Tryd.results6, go_sem, k0, k1, k2, k3]) rfl ⟨HFIN.out, HBB.out⟩
  · have s3 : (bt != t) = true := by simpa using s1
    clear I5
    go_wp2_with (first | rw [HW4.out] | rw [HW5.out])
    clear s1 s2 s3 I4 Z4 HW4 HW5 d0 d1 d2 e0 e1 e2 y2
    have hb7 := below_box W5 (.cells #[.int .i64 ba, .int .i64 bo, .int .i64 bt] 42)
    have Z7 := Z5.below hb7
    have R7 := R5.below hb7
    have B7 := B5.trans (hb7.mono B5.size)
    have T7 := tbox_new' W5 ⟨ba, bo, bt⟩ 42
    have hs7 : W5.heap.size < (W5.alloc (.cells #[.int .i64 ba, .int .i64 bo, .int .i64 bt] 42)).heap.size := by simp
    have gz7 := Z5.gz
    have kz7 := Z5.kz
    have gk7 := Z5.gk
    have hz7 := Z5.box.lt
    have hg7 := Z5.glt
    have hk7 := Z5.klt
    dsimp only at T7
    obtain ⟨W7, hW7⟩ : ∃ W7, W5.alloc (.cells #[.int .i64 ba, .int .i64 bo, .int .i64 bt] 42) = W7 := ⟨_, rfl⟩
    rw [hW7] at Z7 R7 B7 T7 hs7 ⊢
    obtain ⟨g0, g1, g2⟩ := T7
    have S0 : TkF w3.heap.size W5.heap.size g (N + 1) (N + 1) ba bo bt W7 := ⟨Z7.box.c2, g0, g1, g2⟩
    have S1 := S0.below (Below.refl W7.heap.size W7).drew
    have hBd := (Below.refl W7.heap.size W7).drew
    have m1 : ∀ wx, TkF w3.heap.size W5.heap.size g (N + 1) (N + 1) ba bo bt wx → wx.cell? ⟨w3.heap.size, 2, none⟩ = some (.slice (some ⟨g, 0, none⟩) (N + 1) (N + 1)) := fun wx h => h.c
    have m2 : ∀ wx, TkF w3.heap.size W5.heap.size g (N + 1) (N + 1) ba bo bt wx → wx.cell? ⟨W5.heap.size, 0, none⟩ = some (.int .i64 ba) := fun wx h => h.e0
    have m3 : ∀ wx, TkF w3.heap.size W5.heap.size g (N + 1) (N + 1) ba bo bt wx → wx.cell? ⟨W5.heap.size, 1, none⟩ = some (.int .i64 bo) := fun wx h => h.e1
    have m4 : ∀ wx, TkF w3.heap.size W5.heap.size g (N + 1) (N + 1) ba bo bt wx → wx.cell? ⟨W5.heap.size, 2, none⟩ = some (.int .i64 bt) := fun wx h => h.e2
    have HH : Hid (∀ V, Below W7.heap.size W7 V → Calls Tryd.prog 19 #[.agg #[.int .i64 ba, .int .i64 bo, .int .i64 bt], .int .i64 o] V fun e w' => ∃ v, e = .returned v ∧ w'.ownsRow W7.heap.size 42 3 v (bo - o).toNat (bvals (halvesL ba bt o (bo - o).toNat)) ∧ Below W7.heap.size W7 w') := fun V hV => by
      refine (halves_any V ba bo bt o ⟨o0, o4⟩ ho.1 hob (by omega) (by omega)).mono ?_
      rintro e w' ⟨v, rfl, ow, hb⟩
      exact ⟨v, rfl, owns_weaken ow hV.size, hV.trans (hb.mono hV.size)⟩
    have HR : Hid (∀ V vo vc, Below W7.heap.size W7 V → V.ownsRow W7.heap.size 42 3 (.slice vo (bo - o).toNat vc) (bo - o).toNat (bvals (halvesL ba bt o (bo - o).toNat)) → Calls Tryd.prog 18 #[.slice (some ⟨g, 0, none⟩) (N + 1) (N + 1), .int .i64 i, .int .i64 ((i : Int) + 1), .slice vo (bo - o).toNat vc] V fun e w' => RetRow V w' w2.heap.size g (N + (bo - o).toNat) (repB z.free i (halvesL ba bt o (bo - o).toNat)) e) := fun V vo vc hV ov =>
      bRep_any V w2.heap.size g N (N + 1) i (bo - o).toNat vc W7.heap.size vo z.free (halvesL ba bt o (bo - o).toNat) hiN hN3 (by have := ho.1; omega) (owns_below Z7.own hV (Nat.le_refl _)) ov (by omega)
    go_wp2_with fail
    refine wp_region_peel (S := fun wx => TkF w3.heap.size W5.heap.size g (N + 1) (N + 1) ba bo bt wx) 10 _ (by kernel_rfl) (by kernel_rfl) rfl ?_
    simp only [List.take_succ_cons, List.take_zero]
    refine takeH 0 (v := .pointer (some ⟨w3.heap.size, 2, none⟩)) rfl (by kernel_rfl) (by kernel_rfl) (by kernel_rfl) (fun _ _ _ h => h) rfl (fun wx hSx => ?_) S1 ?_
    · go_simp
    try simp only [Act.put, List.setIfInBounds_toArray, List.set_cons_zero, List.set_cons_succ]
    refine takeH 1 (v := .slice (some ⟨g, 0, none⟩) (N + 1) (N + 1)) rfl (by kernel_rfl) (by kernel_rfl) (by kernel_rfl) (fun _ _ _ h => h) rfl (fun wx hSx => ?_) S1 ?_
    · go_simp
    try simp only [Act.put, List.setIfInBounds_toArray, List.set_cons_zero, List.set_cons_succ]
    refine takeH 2 (v := .int .i64 (i : Int)) rfl (by kernel_rfl) (by kernel_rfl) (by kernel_rfl) (fun _ _ _ h => h) rfl (fun wx hSx => ?_) S1 ?_
    · go_simp
    try simp only [Act.put, List.setIfInBounds_toArray, List.set_cons_zero, List.set_cons_succ]
    refine takeH 3 (v := .int .i64 (i : Int)) rfl (by kernel_rfl) (by kernel_rfl) (by kernel_rfl) (fun _ _ _ h => h) rfl (fun wx hSx => ?_) S1 ?_
    · go_simp
    try simp only [Act.put, List.setIfInBounds_toArray, List.set_cons_zero, List.set_cons_succ]
    refine takeH 4 (v := .int .i64 ((i : Int) + 1)) rfl (by kernel_rfl) (by kernel_rfl) (by kernel_rfl) (fun _ _ _ h => h) rfl (fun wx hSx => ?_) S1 ?_
    · go_simp
    try simp only [Act.put, List.setIfInBounds_toArray, List.set_cons_zero, List.set_cons_succ]
    refine takeH 5 (v := .agg #[.int .i64 ba, .int .i64 bo, .int .i64 bt]) rfl (by kernel_rfl) (by kernel_rfl) (by kernel_rfl) (fun _ _ _ h => h) rfl (fun wx hSx => ?_) S1 ?_
    · go_simp
    try simp only [Act.put, List.setIfInBounds_toArray, List.set_cons_zero, List.set_cons_succ]
    refine takeH 6 (v := .int .i64 o) rfl (by kernel_rfl) (by kernel_rfl) (by kernel_rfl) (fun _ _ _ h => h) rfl (fun wx hSx => ?_) S1 ?_
    · go_simp
    try simp only [Act.put, List.setIfInBounds_toArray, List.set_cons_zero, List.set_cons_succ]
    refine oneH 7 (by kernel_rfl) rfl rfl (fun K1 hK1 => ?_)
    go_simp
    refine (HH.out _ hBd).mono ?_
    rintro e w8 ⟨v, rfl, ow8, hb8⟩
    obtain ⟨vo, vc, rfl⟩ := owns_shape ow8
    have hS8 := S0.below hb8
    refine hK1 _ _ hS8 ?_
    try simp only [Act.put, List.setIfInBounds_toArray, List.set_cons_zero, List.set_cons_succ]
    refine oneH 8 (by kernel_rfl) rfl rfl (fun K2 hK2 => ?_)
    go_simp
    refine (HR.out _ vo vc hb8 ow8).mono ?_
    rintro e w9 ⟨g', cap', rfl, ow9, hb9, hg9⟩
    have hS9 := hS8.but hb9 (by omega) (by omega)
    have X9 := (Z7.box.below hb8).but hb9 (by omega)
    refine hK2 _ _ hS9 ?_
    try simp only [Act.put, List.setIfInBounds_toArray, List.set_cons_zero, List.set_cons_succ]
    refine takeH 9 (v := .pointer (some ⟨w3.heap.size, 2, none⟩)) rfl (by kernel_rfl) (by kernel_rfl) (by kernel_rfl) (fun _ _ _ h => h) rfl (fun wx hSx => ?_) hS9 ?_
    · go_simp
    try simp only [Act.put, List.setIfInBounds_toArray, List.set_cons_zero, List.set_cons_succ]
    refine wpAnyH_done (by kernel_rfl) ?_ _
    show Oper.wp _ _ _ _ _ _
    have x2 := X9.c2
    have x2z := X9.z2
    have hg9' : g' = g ∨ W7.heap.size ≤ g' := by rcases hg9 with q | q; exact .inl q; exact .inr (Nat.le_trans hb8.size q)
    have hbt : But w3.heap.size w9 (w9.setCell ⟨w3.heap.size, 2, none⟩ (.slice (some ⟨g', 0, none⟩) (N + (bo - o).toNat) cap')) := (But.refl _ _).setCell _
    have X10 := X9.set2 (.slice (some ⟨g', 0, none⟩) (N + (bo - o).toNat) cap')
    have R10 := ((R7.below hb8).but hb9 (by omega)).but hbt (by omega)
    have q0 := hbt.cell hS9.e0 (by omega)
    have ow10 := own_but ow9 hbt (by omega)
    have ty10 := own_but (own_but (owns_below Z7.typ hb8 (Nat.le_refl _)) hb9 (Ne.symm gk7)) hbt (by omega)
    have B10 : Below w.heap.size w (w9.setCell ⟨w3.heap.size, 2, none⟩ (.slice (some ⟨g', 0, none⟩) (N + (bo - o).toNat) cap')) := B7.trans ((hb8.mono (B7.size)).trans ((hb9.below (by omega) (Nat.le_trans B7.size hb8.size)).trans (hbt.below (by omega) (Nat.le_trans B7.size (Nat.le_trans hb8.size hb9.size)))))
    have hs9 : W7.heap.size ≤ (w9.setCell ⟨w3.heap.size, 2, none⟩ (.slice (some ⟨g', 0, none⟩) (N + (bo - o).toNat) cap')).heap.size := Nat.le_trans hb8.size (Nat.le_trans hb9.size hbt.size)
    obtain ⟨w10, hw10⟩ : ∃ w10, w9.setCell ⟨w3.heap.size, 2, none⟩ (.slice (some ⟨g', 0, none⟩) (N + (bo - o).toNat) cap') = w10 := ⟨_, rfl⟩
    rw [hw10] at X10 R10 q0 ow10 ty10 B10 hs9
    have HW10 : Hid _ := hw10
    obtain ⟨p0, p1, p2, p3, _, _, _, _⟩ := id X10
    obtain ⟨⟨u0, d0⟩, ⟨u1, d1⟩, ⟨u2, d2⟩, ⟨u3, d3⟩, z0, z1, z2, z3⟩ := id R10
    clear hw10 hbt HH HR m1 m2 m3 m4 S0 S1 hS8 hS9 X9 R7 Z7 hb8 hb9 ow8 ow9 B7 hBd g0 g1 g2
    go_wp2_with (rw [HW10.out])
    have ne1 : ¬ (W5.heap.size = w.heap.size + 1) := by omega
    have ne2 : ¬ (w.heap.size + 1 = W5.heap.size) := by omega
    have RD := R10.below (Below.refl w10.heap.size w10).drew
    obtain ⟨k0, k1, k2, k3⟩ := res4 R10 (.int .i64 z.f) (.int .i64 z.t) (.slice (some ⟨g', 0, none⟩) (N + (bo - o).toNat) cap') (.slice (some ⟨k, 0, none⟩) tn tn)
    have hbt := but4 w10.drew (w.heap.size + 1) (.int .i64 z.f) (.int .i64 z.t) (.slice (some ⟨g', 0, none⟩) (N + (bo - o).toNat) cap') (.slice (some ⟨k, 0, none⟩) tn tn)
    have Bl : Below w10.heap.size w10 w10.drew := (Below.refl w10.heap.size w10).drew
    have BF := blks_own (owns_below ow10 Bl (Nat.le_refl _)) (by have := ho.1; omega)
    have NF := nums_of_owns (owns_below ty10 Bl (Nat.le_refl _)) htr
    have BB := (B10.trans (Bl.mono B10.size)).trans (hbt.below (B := w.heap.size) (by omega) (Nat.le_trans B10.size Bl.size))
    have FIN : RetZone3 w.heap.size ((((w10.drew.setCell ⟨w.heap.size + 1, 0, none⟩ (.int .i64 z.f)).setCell ⟨w.heap.size + 1, 1, none⟩ (.int .i64 z.t)).setCell ⟨w.heap.size + 1, 2, none⟩ (.slice (some ⟨g', 0, none⟩) (N + (bo - o).toNat) cap')).setCell ⟨w.heap.size + 1, 3, none⟩ (.slice (some ⟨k, 0, none⟩) tn tn)) ⟨z.f, z.t, repB z.free i (halvesL ba bt o (bo - o).toNat), z.types⟩ ba (.returned (.tuple #[.agg #[.int .i64 z.f, .int .i64 z.t, .slice (some ⟨g', 0, none⟩) (N + (bo - o).toNat) cap', .slice (some ⟨k, 0, none⟩) tn tn], .int .i64 ba, .int .i64 0])) := ⟨_, _, _, _, _, _, rfl, hbt.zn ⟨BF, NF⟩ (fun a ha => by cases ha; dsimp only; omega) (fun a ha => by cases ha; dsimp only; omega), fun a ha => by cases ha; dsimp only; omega, fun a ha => by cases ha; dsimp only; omega⟩
    have HFIN : Hid _ := FIN
    have HBB : Hid _ := BB
    clear FIN BB BF NF X10 ow10 ty10 B10 R10 RD hbt Bl
    go_region
    all_goals
      try go_wp2_with fail
      exact bodyPost_ret (v := .tuple #[.agg #[.int .i64 z.f, .int .i64 z.t, .slice (some ⟨g', 0, none⟩) (N + (bo - o).toNat) cap', .slice (some ⟨k, 0, none⟩) tn tn], .int .i64 ba, .int .i64 0]) (by simp [results, Tryd.results6, go_sem, k0, k1, k2, k3]) rfl ⟨HFIN.out, HBB.out⟩

end Go.Proofs.YtpfafhgllabhbaaDoor

/-
  OWN TEXT. Contract of the code: buddy.Take, groups are stolen.
-/
namespace Go.Proofs.YtpfafhgllabhbaaDoor
open Go Go.RowKit Go.Proofs.YtpfafhgllabhbaaDoor.Kit

set_option maxRecDepth 4000 in
set_option maxHeartbeats 8000000 in
theorem zTake_steal (w : World) (fo : Option Addr) (N fc : Nat) (to_ : Option Addr) (tn tc : Nat) (z : Zn) (o t ba bo bt : Int) (i : Nat) (h : ZnAt w fo (N + 1) to_ tn z) (hM : ZMay z) (hT : TabAt w) (ho : ordOk o) (ht : typeOk t) (hC : chooseI z.free o t = i) (hiN : i ≤ N) (hb : z.free.getD i .zero = ⟨ba, bo, bt⟩) (hob : o ≤ bo) (F L : Nat) (hF : (ba - z.f) / 8 = (F : Int)) (hL : (ba + pw bo - 1 - z.f) / 8 = (L : Int)) (hLn : L < tn) (s1 : (bt == t) = false) (s2 : 2 ≤ bo) :
    Calls Tryd.prog 6 #[.agg #[.int .i64 z.f, .int .i64 z.t, .slice fo (N + 1) fc, .slice to_ tn tc], .int .i64 o, .int .i64 t] w fun e w' => RetZone3 w.heap.size w' ⟨z.f, z.t, repB (z.free.map (stealB z.f F L t)) i (halvesL ba t o (bo - o).toNat), (setR z.types F t (L + 1 - F))⟩ ba e ∧ Below w.heap.size w w' := by
  have I0 := cbI_first w fo (N + 1) fc to_ tn tc z h
  have c0 := I0.box.c0
  have c1 := I0.box.c1
  have c2 := I0.box.c2
  have c3 := I0.box.c3
  have hlen : z.free.length = N + 1 := h.free.len
  have hbl := may_len hM
  have htr := h.types.reach
  have hN3 : N ≤ 300 := by omega
  obtain ⟨n1, n2, n3, n4, n5⟩ := hM.new
  obtain ⟨⟨o0, o4⟩, a1, a2, a3⟩ := (freeOk_at hM.free (k := i) (by omega) hb).1
  dsimp only at o0 o4 a1 a2 a3
  have htl : tn ≤ 300 := by have h1 := hM.len; have h2 : z.types.length = tn := h.types.len; omega
  have HAll : Hid (∀ b ∈ z.free, z.f ≤ b.a ∧ b.a ≤ 256) := fun b hb => by obtain ⟨_, q1, q2, _⟩ := may_blk hM b hb; omega
  have HEnd : Hid (ba + pw bo ≤ 256) := by
    show _ ≤ _
    have hp := blk_end (o := bo) ⟨o0, o4⟩ a2 a3 n5
    omega
  have HB : Hid _ := hb
  have HC : Hid _ := hC
  have HL : Hid _ := hlen
  have HO : Hid (inB o 0 4 = true) := inB_t ho
  have HT : Hid (inB t 0 2 = true) := inB_t ht
  have k1 : ¬ ((i : Int) < 0) := by omega
  have k2 : (i : Int) < (N : Int) + 1 := by omega
  have k3 : IntKind.i64.wrap ((i : Int) + 1) = (i : Int) + 1 := IntWalk.i64_in _ (by omega)
  clear h hb hC hlen
  go_enter Tryd.func6, Tryd.ntmps6
  go_wp2_with fail
  go_at_call 10
  refine (zCheck_ok _ fo (N + 1) fc to_ tn tc z I0.zn hM).mono ?_
  rintro e w1 ⟨rfl, hb⟩
  have I1 := I0.step hb
  clear I0 hb c0 c1 c2 c3
  have c0 := I1.box.c0
  have c1 := I1.box.c1
  have c2 := I1.box.c2
  have c3 := I1.box.c3
  go_wp2_with fail
  go_at_call 14
  refine (isOrder_any _ o).mono ?_
  rintro e wq ⟨rfl, rfl⟩
  rw [HO.out]
  go_wp2_with fail
  go_at_call 15
  refine (isType_any _ t).mono ?_
  rintro e wq ⟨rfl, rfl⟩
  rw [HT.out]
  go_wp2_with fail
  go_at_call 16
  refine (choose_any _ fo (N + 1) fc z.free o t I1.zn.free (hT.below I1.b) ho ht).mono ?_
  rintro e w2 ⟨rfl, hb2⟩
  rw [HC.out]
  have I2 := I1.step hb2
  clear I1 hb2 c0 c1 c2 c3
  have c0 := I2.box.c0
  have c1 := I2.box.c1
  have c2 := I2.box.c2
  have c3 := I2.box.c3
  go_wp2_with fail
  go_at_call 11
  refine (zCopy_own _ fo (N + 1) fc to_ tn tc z I2.zn).mono ?_
  rintro e w3 ⟨g, k, rfl, o1, o2, hgk, hb3⟩
  have I3 := I2.step hb3
  have hf1 := owns_fresh o1 _ rfl
  have hf2 := owns_fresh o2 _ rfl
  have Z4 := zo_new o1 o2 hgk
  have hbx := below_box w3 (.cells #[.int .i64 z.f, .int .i64 z.t, .slice (some ⟨g, 0, none⟩) (N + 1) (N + 1), .slice (some ⟨k, 0, none⟩) tn tn] 25)
  have I4 := I3.step hbx
  have hs2 := I2.size
  have hs3 := I3.size
  obtain ⟨W4, hW4⟩ : ∃ W4, w3.alloc (.cells #[.int .i64 z.f, .int .i64 z.t, .slice (some ⟨g, 0, none⟩) (N + 1) (N + 1), .slice (some ⟨k, 0, none⟩) tn tn] 25) = W4 := ⟨_, rfl⟩
  rw [hW4] at I4 Z4
  have HW4 : Hid _ := hW4
  dsimp only at hf1 hf2
  have hgl := Z4.glt
  have hkl := Z4.klt
  have hzl := Z4.box.lt
  obtain ⟨d0, d1, d2⟩ := own_at Z4.own (i := i) (by omega) HB.out
  have y2 := Z4.box.c2
  have hb5 := below_box W4 (.cells #[.int .i64 ba, .int .i64 bo, .int .i64 bt] 42)
  have I5 := I4.step hb5
  have Z5 := Z4.below hb5
  have T5 := tbox_new' W4 ⟨ba, bo, bt⟩ 42
  have hs5 : W4.heap.size < (W4.alloc (.cells #[.int .i64 ba, .int .i64 bo, .int .i64 bt] 42)).heap.size := by simp
  obtain ⟨W5, hW5⟩ : ∃ W5, W4.alloc (.cells #[.int .i64 ba, .int .i64 bo, .int .i64 bt] 42) = W5 := ⟨_, rfl⟩
  dsimp only at T5
  rw [hW5] at I5 Z5 T5 hs5
  have HW5 : Hid _ := hW5
  obtain ⟨e0, e1, e2⟩ := T5
  have y5 := Z5.box.c2
  obtain ⟨f0, f1, f2⟩ := own_at Z5.own (i := i) (by omega) HB.out
  clear I2 I3 hb3 c0 c1 c2 c3 o1 o2 hbx hW4 hW5 hb5
  have s3 : (bt != t) = true := by simpa using s1
  have HS := steal_any W5 w2.heap.size w3.heap.size g (N + 1) (N + 1) k tn tn z ba bo bt t F L Z5 (by have := HL.out; omega) n1 ⟨o0, o4⟩ a1 HEnd.out hF hL hLn HAll.out htl
  have HF : Hid _ := hF
  have HL2 : Hid _ := hL
  clear hF hL
  go_wp2_with (first | rw [HW4.out] | rw [HW5.out])
  go_at_call 17
  refine HS.mono ?_
  rintro e W6 ⟨rfl, Z6, hU6⟩
  have HB6 : Hid ((z.free.map (stealB z.f F L t)).getD i .zero = ⟨ba, bo, t⟩) := HB6s z F L t HB.out (by rw [HL.out]; omega) HF.out HL2.out
  obtain ⟨f0, f1, f2⟩ := own_at Z6.own (i := i) (by omega) HB6.out
  have y6 := Z6.box.c2
  have hs6 := hU6.size
  have R6 := hU6.res I5.res (by omega) (by omega)
  have B6 : Below w.heap.size w W6 := I5.b.trans (hU6.below (by omega) (by omega) (by omega))
  clear I4 I5 Z4 Z5 HS HW4 HW5 hU6 d0 d1 d2 e0 e1 e2 y2 y5
  go_wp2_with fail
  have hb7 := below_box W6 (.cells #[.int .i64 ba, .int .i64 bo, .int .i64 t] 42)
  have Z7 := Z6.below hb7
  have R7 := R6.below hb7
  have B7 := B6.trans (hb7.mono B6.size)
  have T7 := tbox_new' W6 ⟨ba, bo, t⟩ 42
  have hs7 : W6.heap.size < (W6.alloc (.cells #[.int .i64 ba, .int .i64 bo, .int .i64 t] 42)).heap.size := by simp
  have gz7 := Z6.gz
  have kz7 := Z6.kz
  have gk7 := Z6.gk
  have hz7 := Z6.box.lt
  have hg7 := Z6.glt
  have hk7 := Z6.klt
  dsimp only at T7
  obtain ⟨W7, hW7⟩ : ∃ W7, W6.alloc (.cells #[.int .i64 ba, .int .i64 bo, .int .i64 t] 42) = W7 := ⟨_, rfl⟩
  rw [hW7] at Z7 R7 B7 T7 hs7 ⊢
  obtain ⟨g0, g1, g2⟩ := T7
  have S0 : TkF w3.heap.size W6.heap.size g (N + 1) (N + 1) ba bo t W7 := ⟨Z7.box.c2, g0, g1, g2⟩
  have S1 := S0.below (Below.refl W7.heap.size W7).drew
  have hBd := (Below.refl W7.heap.size W7).drew
  have m1 : ∀ wx, TkF w3.heap.size W6.heap.size g (N + 1) (N + 1) ba bo t wx → wx.cell? ⟨w3.heap.size, 2, none⟩ = some (.slice (some ⟨g, 0, none⟩) (N + 1) (N + 1)) := fun wx h => h.c
  have m2 : ∀ wx, TkF w3.heap.size W6.heap.size g (N + 1) (N + 1) ba bo t wx → wx.cell? ⟨W6.heap.size, 0, none⟩ = some (.int .i64 ba) := fun wx h => h.e0
  have m3 : ∀ wx, TkF w3.heap.size W6.heap.size g (N + 1) (N + 1) ba bo t wx → wx.cell? ⟨W6.heap.size, 1, none⟩ = some (.int .i64 bo) := fun wx h => h.e1
  have m4 : ∀ wx, TkF w3.heap.size W6.heap.size g (N + 1) (N + 1) ba bo t wx → wx.cell? ⟨W6.heap.size, 2, none⟩ = some (.int .i64 t) := fun wx h => h.e2
  have HH : Hid (∀ V, Below W7.heap.size W7 V → Calls Tryd.prog 19 #[.agg #[.int .i64 ba, .int .i64 bo, .int .i64 t], .int .i64 o] V fun e w' => ∃ v, e = .returned v ∧ w'.ownsRow W7.heap.size 42 3 v (bo - o).toNat (bvals (halvesL ba t o (bo - o).toNat)) ∧ Below W7.heap.size W7 w') := fun V hV => by
    refine (halves_any V ba bo t o ⟨o0, o4⟩ ho.1 hob (by omega) (by omega)).mono ?_
    rintro e w' ⟨v, rfl, ow, hb⟩
    exact ⟨v, rfl, owns_weaken ow hV.size, hV.trans (hb.mono hV.size)⟩
  have HR : Hid (∀ V vo vc, Below W7.heap.size W7 V → V.ownsRow W7.heap.size 42 3 (.slice vo (bo - o).toNat vc) (bo - o).toNat (bvals (halvesL ba t o (bo - o).toNat)) → Calls Tryd.prog 18 #[.slice (some ⟨g, 0, none⟩) (N + 1) (N + 1), .int .i64 i, .int .i64 ((i : Int) + 1), .slice vo (bo - o).toNat vc] V fun e w' => RetRow V w' w2.heap.size g (N + (bo - o).toNat) (repB (z.free.map (stealB z.f F L t)) i (halvesL ba t o (bo - o).toNat)) e) := fun V vo vc hV ov =>
    bRep_any V w2.heap.size g N (N + 1) i (bo - o).toNat vc W7.heap.size vo (z.free.map (stealB z.f F L t)) (halvesL ba t o (bo - o).toNat) hiN hN3 (by have := ho.1; omega) (owns_below Z7.own hV (Nat.le_refl _)) ov (by omega)
  go_wp2_with fail
  refine wp_region_peel (S := fun wx => TkF w3.heap.size W6.heap.size g (N + 1) (N + 1) ba bo t wx) 10 _ (by kernel_rfl) (by kernel_rfl) rfl ?_
  simp only [List.take_succ_cons, List.take_zero]
  refine takeH 0 (v := .pointer (some ⟨w3.heap.size, 2, none⟩)) rfl (by kernel_rfl) (by kernel_rfl) (by kernel_rfl) (fun _ _ _ h => h) rfl (fun wx hSx => ?_) S1 ?_
  · go_simp
  try simp only [Act.put, List.setIfInBounds_toArray, List.set_cons_zero, List.set_cons_succ]
  refine takeH 1 (v := .slice (some ⟨g, 0, none⟩) (N + 1) (N + 1)) rfl (by kernel_rfl) (by kernel_rfl) (by kernel_rfl) (fun _ _ _ h => h) rfl (fun wx hSx => ?_) S1 ?_
  · go_simp
  try simp only [Act.put, List.setIfInBounds_toArray, List.set_cons_zero, List.set_cons_succ]
  refine takeH 2 (v := .int .i64 (i : Int)) rfl (by kernel_rfl) (by kernel_rfl) (by kernel_rfl) (fun _ _ _ h => h) rfl (fun wx hSx => ?_) S1 ?_
  · go_simp
  try simp only [Act.put, List.setIfInBounds_toArray, List.set_cons_zero, List.set_cons_succ]
  refine takeH 3 (v := .int .i64 (i : Int)) rfl (by kernel_rfl) (by kernel_rfl) (by kernel_rfl) (fun _ _ _ h => h) rfl (fun wx hSx => ?_) S1 ?_
  · go_simp
  try simp only [Act.put, List.setIfInBounds_toArray, List.set_cons_zero, List.set_cons_succ]
  refine takeH 4 (v := .int .i64 ((i : Int) + 1)) rfl (by kernel_rfl) (by kernel_rfl) (by kernel_rfl) (fun _ _ _ h => h) rfl (fun wx hSx => ?_) S1 ?_
  · go_simp
  try simp only [Act.put, List.setIfInBounds_toArray, List.set_cons_zero, List.set_cons_succ]
  refine takeH 5 (v := .agg #[.int .i64 ba, .int .i64 bo, .int .i64 t]) rfl (by kernel_rfl) (by kernel_rfl) (by kernel_rfl) (fun _ _ _ h => h) rfl (fun wx hSx => ?_) S1 ?_
  · go_simp
  try simp only [Act.put, List.setIfInBounds_toArray, List.set_cons_zero, List.set_cons_succ]
  refine takeH 6 (v := .int .i64 o) rfl (by kernel_rfl) (by kernel_rfl) (by kernel_rfl) (fun _ _ _ h => h) rfl (fun wx hSx => ?_) S1 ?_
  · go_simp
  try simp only [Act.put, List.setIfInBounds_toArray, List.set_cons_zero, List.set_cons_succ]
  refine oneH 7 (by kernel_rfl) rfl rfl (fun K1 hK1 => ?_)
  go_simp
  refine (HH.out _ hBd).mono ?_
  rintro e w8 ⟨v, rfl, ow8, hb8⟩
  obtain ⟨vo, vc, rfl⟩ := owns_shape ow8
  have hS8 := S0.below hb8
  refine hK1 _ _ hS8 ?_
  try simp only [Act.put, List.setIfInBounds_toArray, List.set_cons_zero, List.set_cons_succ]
  refine oneH 8 (by kernel_rfl) rfl rfl (fun K2 hK2 => ?_)
  go_simp
  refine (HR.out _ vo vc hb8 ow8).mono ?_
  rintro e w9 ⟨g', cap', rfl, ow9, hb9, hg9⟩
  have hS9 := hS8.but hb9 (by omega) (by omega)
  have X9 := (Z7.box.below hb8).but hb9 (by omega)
  refine hK2 _ _ hS9 ?_
  try simp only [Act.put, List.setIfInBounds_toArray, List.set_cons_zero, List.set_cons_succ]
  refine takeH 9 (v := .pointer (some ⟨w3.heap.size, 2, none⟩)) rfl (by kernel_rfl) (by kernel_rfl) (by kernel_rfl) (fun _ _ _ h => h) rfl (fun wx hSx => ?_) hS9 ?_
  · go_simp
  try simp only [Act.put, List.setIfInBounds_toArray, List.set_cons_zero, List.set_cons_succ]
  refine wpAnyH_done (by kernel_rfl) ?_ _
  show Oper.wp _ _ _ _ _ _
  have x2 := X9.c2
  have x2z := X9.z2
  have hg9' : g' = g ∨ W7.heap.size ≤ g' := by rcases hg9 with q | q; exact .inl q; exact .inr (Nat.le_trans hb8.size q)
  have hbt : But w3.heap.size w9 (w9.setCell ⟨w3.heap.size, 2, none⟩ (.slice (some ⟨g', 0, none⟩) (N + (bo - o).toNat) cap')) := (But.refl _ _).setCell _
  have X10 := X9.set2 (.slice (some ⟨g', 0, none⟩) (N + (bo - o).toNat) cap')
  have R10 := ((R7.below hb8).but hb9 (by omega)).but hbt (by omega)
  have q0 := hbt.cell hS9.e0 (by omega)
  have ow10 := own_but ow9 hbt (by omega)
  have ty10 := own_but (own_but (owns_below Z7.typ hb8 (Nat.le_refl _)) hb9 (Ne.symm gk7)) hbt (by omega)
  have B10 : Below w.heap.size w (w9.setCell ⟨w3.heap.size, 2, none⟩ (.slice (some ⟨g', 0, none⟩) (N + (bo - o).toNat) cap')) := B7.trans ((hb8.mono (B7.size)).trans ((hb9.below (by omega) (Nat.le_trans B7.size hb8.size)).trans (hbt.below (by omega) (Nat.le_trans B7.size (Nat.le_trans hb8.size hb9.size)))))
  have hs9 : W7.heap.size ≤ (w9.setCell ⟨w3.heap.size, 2, none⟩ (.slice (some ⟨g', 0, none⟩) (N + (bo - o).toNat) cap')).heap.size := Nat.le_trans hb8.size (Nat.le_trans hb9.size hbt.size)
  obtain ⟨w10, hw10⟩ : ∃ w10, w9.setCell ⟨w3.heap.size, 2, none⟩ (.slice (some ⟨g', 0, none⟩) (N + (bo - o).toNat) cap') = w10 := ⟨_, rfl⟩
  rw [hw10] at X10 R10 q0 ow10 ty10 B10 hs9
  have HW10 : Hid _ := hw10
  obtain ⟨p0, p1, p2, p3, _, _, _, _⟩ := id X10
  obtain ⟨⟨u0, d0⟩, ⟨u1, d1⟩, ⟨u2, d2⟩, ⟨u3, d3⟩, z0, z1, z2, z3⟩ := id R10
  clear hw10 hbt HH HR m1 m2 m3 m4 S0 S1 hS8 hS9 X9 R7 Z7 hb8 hb9 ow8 ow9 B7 hBd g0 g1 g2
  go_wp2_with (rw [HW10.out])
  have ne1 : ¬ (W6.heap.size = w.heap.size + 1) := by omega
  have ne2 : ¬ (w.heap.size + 1 = W6.heap.size) := by omega
  have RD := R10.below (Below.refl w10.heap.size w10).drew
  obtain ⟨k0, k1, k2, k3⟩ := res4 R10 (.int .i64 z.f) (.int .i64 z.t) (.slice (some ⟨g', 0, none⟩) (N + (bo - o).toNat) cap') (.slice (some ⟨k, 0, none⟩) tn tn)
  have hbt := but4 w10.drew (w.heap.size + 1) (.int .i64 z.f) (.int .i64 z.t) (.slice (some ⟨g', 0, none⟩) (N + (bo - o).toNat) cap') (.slice (some ⟨k, 0, none⟩) tn tn)
  have Bl : Below w10.heap.size w10 w10.drew := (Below.refl w10.heap.size w10).drew
  have BF := blks_own (owns_below ow10 Bl (Nat.le_refl _)) (by have := ho.1; omega)
  have NF := nums_of_owns (owns_below ty10 Bl (Nat.le_refl _)) htr
  have BB := (B10.trans (Bl.mono B10.size)).trans (hbt.below (B := w.heap.size) (by omega) (Nat.le_trans B10.size Bl.size))
  have FIN : RetZone3 w.heap.size ((((w10.drew.setCell ⟨w.heap.size + 1, 0, none⟩ (.int .i64 z.f)).setCell ⟨w.heap.size + 1, 1, none⟩ (.int .i64 z.t)).setCell ⟨w.heap.size + 1, 2, none⟩ (.slice (some ⟨g', 0, none⟩) (N + (bo - o).toNat) cap')).setCell ⟨w.heap.size + 1, 3, none⟩ (.slice (some ⟨k, 0, none⟩) tn tn)) ⟨z.f, z.t, repB (z.free.map (stealB z.f F L t)) i (halvesL ba t o (bo - o).toNat), (setR z.types F t (L + 1 - F))⟩ ba (.returned (.tuple #[.agg #[.int .i64 z.f, .int .i64 z.t, .slice (some ⟨g', 0, none⟩) (N + (bo - o).toNat) cap', .slice (some ⟨k, 0, none⟩) tn tn], .int .i64 ba, .int .i64 0])) := ⟨_, _, _, _, _, _, rfl, hbt.zn ⟨BF, NF⟩ (fun a ha => by cases ha; dsimp only; omega) (fun a ha => by cases ha; dsimp only; omega), fun a ha => by cases ha; dsimp only; omega, fun a ha => by cases ha; dsimp only; omega⟩
  have HFIN : Hid _ := FIN
  have HBB : Hid _ := BB
  clear FIN BB BF NF X10 ow10 ty10 B10 R10 RD hbt Bl
  go_region
  all_goals
    try go_wp2_with fail
    exact bodyPost_ret (v := .tuple #[.agg #[.int .i64 z.f, .int .i64 z.t, .slice (some ⟨g', 0, none⟩) (N + (bo - o).toNat) cap', .slice (some ⟨k, 0, none⟩) tn tn], .int .i64 ba, .int .i64 0]) (by simp [results, Tryd.results6, go_sem, k0, k1, k2, k3]) rfl ⟨HFIN.out, HBB.out⟩

end Go.Proofs.YtpfafhgllabhbaaDoor

/-
  OWN TEXT. Contract of the code: buddy.Take, where there is a block.
-/
namespace Go.Proofs.YtpfafhgllabhbaaDoor
open Go Go.RowKit Go.Proofs.YtpfafhgllabhbaaDoor.Kit

theorem zTake_ok (w : World) (fo : Option Addr) (fn fc : Nat) (to_ : Option Addr) (tn tc : Nat) (z : Zn) (o t : Int) (i : Nat) (h : ZnAt w fo fn to_ tn z) (hM : ZMay z) (hT : TabAt w) (ho : ordOk o) (ht : typeOk t) (hC : chooseI z.free o t = i) :
    Calls Tryd.prog 6 #[.agg #[.int .i64 z.f, .int .i64 z.t, .slice fo fn fc, .slice to_ tn tc], .int .i64 o, .int .i64 t] w fun e w' => RetZone3 w.heap.size w' (takeZ z o t i) (z.free.getD i .zero).a e ∧ Below w.heap.size w w' := by
  obtain ⟨j, e, hj, hob⟩ := choose_in (l := z.free) (o := o) (t := t) (by omega)
  obtain rfl : j = i := by omega
  have hlen := h.free.len
  have htl := h.types.len
  obtain ⟨N, rfl⟩ : ∃ N, fn = N + 1 := ⟨fn - 1, by omega⟩
  have hblk := freeOk_at hM.free hj rfl
  obtain ⟨⟨⟨b0, b4⟩, a1, a2, a3⟩, _⟩ := hblk
  obtain ⟨n1, n2, n3, n4, n5⟩ := hM.new
  have hl := hM.len
  unfold takeZ
  dsimp only
  generalize hb : z.free.getD j .zero = b at *
  obtain ⟨ba, bo, bt⟩ := b
  dsimp only at *
  have hend := blk_end (o := bo) ⟨b0, b4⟩ a2 a3 n5
  have hp := pw_pos bo
  by_cases hs : steals ⟨ba, bo, bt⟩ t
  · rw [if_pos hs]
    have eF : ((grpF z ⟨ba, bo, bt⟩).toNat : Int) = (ba - z.f) / 8 := by unfold grpF; dsimp only; omega
    have eL : ((grpL z ⟨ba, bo, bt⟩).toNat : Int) = (ba + pw bo - 1 - z.f) / 8 := by unfold grpL; dsimp only; omega
    have := zTake_steal w fo N fc to_ tn tc z o t ba bo bt j h hM hT ho ht e (by omega) hb hob (grpF z ⟨ba, bo, bt⟩).toNat (grpL z ⟨ba, bo, bt⟩).toNat eF.symm eL.symm (by omega) (by simpa using hs.1) hs.2
    rw [eF, eL] at this
    exact this
  · rw [if_neg hs]
    refine zTake_plain w fo N fc to_ tn tc z o t ba bo bt j h hM hT ho ht e (by omega) hb hob ?_
    unfold steals at hs
    by_cases q : bt = t
    · left; simpa using q
    · right; exact Int.not_le.1 (fun g => hs ⟨q, g⟩)

end Go.Proofs.YtpfafhgllabhbaaDoor

/-
  OWN TEXT. Contract of the document's answer: In.
-/
namespace Go.Proofs.YtpfafhgllabhbaaDoor
open Go Go.RowKit Go.Proofs.YtpfafhgllabhbaaDoor.Kit

theorem in_any (n lo hi : Int) (w : World) :
    Calls Tryd.prog 21 #[.int .i64 n, .int .i64 lo, .int .i64 hi] w fun e w' => e = .returned (.bool (inB n lo hi)) ∧ w = w' := by
  by_cases h1 : lo ≤ n
  · by_cases h2 : n ≤ hi
    · have hI : Hid (inB n lo hi = true) := inB_t ⟨h1, h2⟩
      go_enter Tryd.func21, Tryd.ntmps21
      go_wp2
      go_ret
      exact ⟨ret_bool hI.out.symm, rfl⟩
    · have hI : Hid (inB n lo hi = false) := inB_f (by omega)
      go_enter Tryd.func21, Tryd.ntmps21
      go_wp2
      go_ret
      exact ⟨ret_bool hI.out.symm, rfl⟩
  · have hI : Hid (inB n lo hi = false) := inB_f (by omega)
    go_enter Tryd.func21, Tryd.ntmps21
    go_wp2
    go_ret
    exact ⟨ret_bool hI.out.symm, rfl⟩

end Go.Proofs.YtpfafhgllabhbaaDoor
