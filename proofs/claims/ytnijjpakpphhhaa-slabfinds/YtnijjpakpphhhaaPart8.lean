/-
  OWN TEXTS.
-/
import Derived.Test.YtnijjpakpphhhaaPart7
set_option maxRecDepth 10000
set_option maxHeartbeats 4000000
namespace Go.Proofs.Ytnijjpakpphhhaa.Kit
open Go Go.RowKit
structure Bu2 (g z : Nat) (w w' : World) : Prop where
 os : w'.os = w.os
 tape : w'.tape = w.tape
 output : w'.output = w.output
 size : w.heap.size ≤ w'.heap.size
 block : ∀ k, k < w.heap.size → k ≠ g → k ≠ z → w'.heap[k]? = w.heap[k]?
theorem Bu2.refl (g z : Nat) (w : World) : Bu2 g z w w := ⟨rfl, rfl, rfl, Nat.le_refl _, fun _ _ _ _ => rfl⟩
theorem Bu2.trans {g z : Nat} {w w' w'' : World} (h : Bu2 g z w w') (k : Bu2 g z w' w'') : Bu2 g z w w'' :=
 ⟨k.os.trans h.os, k.tape.trans h.tape, k.output.trans h.output, Nat.le_trans h.size k.size, fun j hj h1 h2 => (k.block j (Nat.lt_of_lt_of_le hj h.size) h1 h2).trans (h.block j hj h1 h2)⟩
theorem Bu2.of_but_g {g z : Nat} {w w' : World} (h : But g w w') : Bu2 g z w w' := ⟨h.os, h.tape, h.output, h.size, fun k hk h1 _ => h.block k hk h1⟩
theorem Bu2.of_but_z {g z : Nat} {w w' : World} (h : But z w w') : Bu2 g z w w' := ⟨h.os, h.tape, h.output, h.size, fun k hk _ h1 => h.block k hk h1⟩
theorem Bu2.of_below {g z : Nat} {w w' : World} (h : Below w.heap.size w w') : Bu2 g z w w' := ⟨h.os, h.tape, h.output, h.size, fun k hk _ _ => h.block k hk⟩
theorem Bu2.below {g z B : Nat} {w w' : World} (h : Bu2 g z w w') (hg : B ≤ g) (hz : B ≤ z) (hB : B ≤ w.heap.size) : Below B w w' := ⟨h.os, h.tape, h.output, h.size, fun k hk => h.block k (by omega) (by omega) (by omega)⟩
theorem Bu2.cell {g z c o : Nat} {v : Value} {w w' : World} (h : Bu2 g z w w') (hc : w.cell? ⟨c, o, none⟩ = some v) (h1 : c ≠ g) (h2 : c ≠ z) : w'.cell? ⟨c, o, none⟩ = some v :=
 (World.cell?_of_block (a := ⟨c, o, none⟩) (h.block c (World.block_lt_of_cell? w _ hc) h1 h2)).trans hc
theorem Bu2.zbox {g z b : Nat} {w w' : World} {x y u v : Value} (h : Bu2 g z w w') (hz : ZBox w b x y u v) (h1 : b ≠ g) (h2 : b ≠ z) : ZBox w' b x y u v := by
 have hb := h.block b hz.lt h1 h2
 exact ⟨h.cell hz.c0 h1 h2, h.cell hz.c1 h1 h2, h.cell hz.c2 h1 h2, h.cell hz.c3 h1 h2, (World.frozen?_of_block (a := ⟨b, 0, none⟩) hb).trans hz.z0, (World.frozen?_of_block (a := ⟨b, 1, none⟩) hb).trans hz.z1, (World.frozen?_of_block (a := ⟨b, 2, none⟩) hb).trans hz.z2, (World.frozen?_of_block (a := ⟨b, 3, none⟩) hb).trans hz.z3⟩
theorem Bu2.res {g z b : Nat} {w w' : World} (h : Bu2 g z w w') (hz : Res4 w b) (h1 : b ≠ g) (h2 : b ≠ z) : Res4 w' b := by
 obtain ⟨⟨v0, e0⟩, ⟨v1, e1⟩, ⟨v2, e2⟩, ⟨v3, e3⟩, z0, z1, z2, z3⟩ := hz
 exact (h.zbox ⟨e0, e1, e2, e3, z0, z1, z2, z3⟩ h1 h2).res
theorem Bu2.owns {g z b : Nat} {w w' : World} {base : Nat} {e : TypeId} {size n cap : Nat} {xs : List Value} (h : Bu2 g z w w') (ho : w.ownsRow base e size (.slice (some ⟨b, 0, none⟩) n cap) n xs) (h1 : b ≠ g) (h2 : b ≠ z) : w'.ownsRow base e size (.slice (some ⟨b, 0, none⟩) n cap) n xs := by
 obtain ⟨hb, hn, cur, R, ht⟩ := Row.of ho
 exact Row.owns ⟨(h.block b R.lt h1 h2).trans R.h, R.len, R.m⟩ hb hn ht
theorem Bu2.moved {g g' z : Nat} {w w' w'' : World} (h : Bu2 g z w w') (k : Bu2 g' z w' w'') (hg : g' = g ∨ w.heap.size ≤ g') : Bu2 g z w w'' := by
 rcases hg with rfl | hg
 ·exact h.trans k
 ·exact ⟨k.os.trans h.os, k.tape.trans h.tape, k.output.trans h.output, Nat.le_trans h.size k.size, fun j hj h1 h2 => (k.block j (Nat.lt_of_lt_of_le hj h.size) (by omega) h2).trans (h.block j hj h1 h2)⟩
theorem own_but {w w' : World} {base : Nat} {e : TypeId} {g n cap size c : Nat} {xs : List Value} (h : w.ownsRow base e size (.slice (some ⟨g, 0, none⟩) n cap) n xs) (hb : But c w w') (hne : g ≠ c) :
    w'.ownsRow base e size (.slice (some ⟨g, 0, none⟩) n cap) n xs := by
 obtain ⟨h1, h2, cur, R, ht⟩ := Row.of h
 exact (R.but hb hne).owns h1 h2 ht
def Inc (l : List Bk) : Prop := l.Pairwise fun p q => p.a < q.a
theorem Inc.drop {l : List Bk} (h : Inc l) (a o : Int) : Inc (dropB l a o) := List.Pairwise.filter _ h
theorem inc_of_free {f t lo : Int} {pv : Option Bk} {l : List Bk} (h : FreeOk f t lo pv l) : Inc l := by
 suffices H : ∀ (l : List Bk) (lo : Int) (pv : Option Bk), FreeOk f t lo pv l → (∀ b ∈ l, lo ≤ b.a) ∧ Inc l from (H l lo pv h).2
 intro l
 induction l with
 | nil => intro lo pv _; exact ⟨fun b hb => by simp at hb, List.Pairwise.nil⟩
 | cons b l ih =>
  intro lo pv h
  obtain ⟨_, _, h3, _, h5⟩ := h
  obtain ⟨i1, i2⟩ := ih _ _ h5
  have hp := pw_pos b.o
  refine ⟨fun x hx => ?_, List.Pairwise.cons (fun x hx => by have := i1 x hx; omega) i2⟩
  rcases List.mem_cons.1 hx with rfl | hx
  ·exact h3
  ·have := i1 x hx; omega
theorem drop_none {l : List Bk} {a o : Int} (h : ∀ b ∈ l, isB a o b = false) : dropB l a o = l := by
 unfold dropB
 rw [List.filter_eq_self]
 intro b hb
 rw [h b hb]; rfl
theorem erase_eq {l : List Bk} (hI : Inc l) {a o : Int} {i : Nat} (hi : i < l.length) (h : isB a o (l.getD i .zero) = true) : l.eraseIdx i = dropB l a o := by
 induction l generalizing i with
 | nil => simp at hi
 | cons b l ih =>
  have hI' := List.pairwise_cons.1 hI
  cases i with
  | zero =>
   have hb : isB a o b = true := by simpa using h
   have e : b.a = a := (of_decide_eq_true hb).1
   have : dropB (b :: l) a o = dropB l a o := by unfold dropB; rw [List.filter_cons]; simp [hb]
   rw [this, drop_none (fun x hx => decide_eq_false (fun g => by have := hI'.1 x hx; rw [e, g.1] at this; omega))]
   rfl
  | succ i =>
   have h' : isB a o (l.getD i .zero) = true := by simpa using h
   have hi' : i < l.length := by simpa using hi
   have e : (l.getD i .zero).a = a := (of_decide_eq_true h').1
   have hm : l.getD i .zero ∈ l := by rw [List.getD_eq_getElem?_getD, List.getElem?_eq_getElem hi']; exact List.getElem_mem _
   have hb : isB a o b = false := decide_eq_false (fun g => by have := hI'.1 _ hm; rw [e, g.1] at this; omega)
   have : dropB (b :: l) a o = b :: dropB l a o := by unfold dropB; rw [List.filter_cons]; simp [hb]
   rw [this, List.eraseIdx_cons_succ, ih hI'.2 hi' h']
theorem has_of {l : List Bk} {a o : Int} {i : Nat} (hi : i < l.length) (h : isB a o (l.getD i .zero) = true) : hasB l a o = true := by
 unfold hasB
 rw [List.any_eq_true]
 exact ⟨l[i], List.getElem_mem _, by rw [List.getD_eq_getElem?_getD, List.getElem?_eq_getElem hi] at h; exact h⟩
theorem has_none {l : List Bk} {a o : Int} (h : ∀ j, j < l.length → isB a o (l.getD j .zero) = false) : hasB l a o = false := by
 unfold hasB
 rw [List.any_eq_false]
 intro x hx
 obtain ⟨i, hi, rfl⟩ := List.getElem_of_mem hx
 have := h i hi
 rw [List.getD_eq_getElem?_getD, List.getElem?_eq_getElem hi] at this
 simp only [Option.getD_some] at this
 simp [this]
theorem drop_len {l : List Bk} (hI : Inc l) {a o : Int} {i : Nat} (hi : i < l.length) (h : isB a o (l.getD i .zero) = true) : (dropB l a o).length + 1 = l.length := by
 rw [← erase_eq hI hi h, List.length_eraseIdx_of_lt hi]; omega
end Go.Proofs.Ytnijjpakpphhhaa.Kit
namespace Go.Proofs.Ytnijjpakpphhhaa
open Go Go.RowKit Go.Proofs.Ytnijjpakpphhhaa.Kit
structure AllI (w : World) (ab r : Nat) (P : List Bk) (ao : Option Addr) (cap : Nat) : Prop where
 c : w.cell? ⟨ab, 0, none⟩ = some (.slice ao P.length cap)
 z : w.frozen? ⟨ab, 0, none⟩ = false
 own : w.ownsRow (ab + 1) 72 3 (.slice ao P.length cap) P.length (bvals P)
 r : ∀ a, ao = some a → a.block = r
theorem AllI.lt {w : World} {ab r : Nat} {P : List Bk} {ao : Option Addr} {cap : Nat} (h : AllI w ab r P ao cap) : ab < w.heap.size := by
 have := World.block_lt_of_cell? w _ h.c
 exact this
theorem AllI.below {w w' : World} {ab r : Nat} {P : List Bk} {ao : Option Addr} {cap : Nat} (h : AllI w ab r P ao cap) (hb : Below w.heap.size w w') : AllI w' ab r P ao cap :=
 ⟨keep h.c hb, (hb.frozen (p := ⟨ab, 0, none⟩) h.lt).trans h.z, owns_below h.own hb (Nat.le_refl _), h.r⟩
theorem overlaps_b (w : World) (ao : Option Addr) (n cap : Nat) (l : List Bk) (a o : Int) (r : Bool) (h : Blks w ao n l) (ho : ∀ i, i < l.length → InP (l.getD i .zero)) (hb : ordOk o) (h0 : 0 ≤ a) (h1 : a ≤ 256) (hr : r = true ↔ ovlP l a o) :
    Calls Try.prog 39 #[.slice ao n cap, .int .i64 a, .int .i64 o] w fun e w' => e = .returned (.bool r) ∧ ∃ d, w' = w.drewN d := by
 refine (overlaps_any w ao n cap l a o h (fun i hi => ⟨(ho i hi).1, (ho i hi).2.1, by have := (ho i hi).2.2; have := pw_pos (l.getD i .zero).o; omega⟩) hb h0 h1).mono ?_
 rintro e w' ⟨⟨q, rfl, hq⟩, hd⟩
 refine ⟨?_, hd⟩
 have : q = r := by
  have e : (q = true) ↔ (r = true) := hq.trans hr.symm
  cases q <;> cases r <;> simp_all
 rw [this]
def AddR (w w' : World) (ab r : Nat) (P : List Bk) (b : Bk) (e : Ending) : Prop :=
 (e = .returned (.bool true) ∧ ¬ ovlP P b.a b.o ∧ ∃ r' ao cap, AllI w' ab r' (P ++ [b]) ao cap ∧ (r' = r ∨ w.heap.size ≤ r') ∧ Bu2 r ab w w') ∨ (e = .returned (.bool false) ∧ ovlP P b.a b.o ∧ Below w.heap.size w w')
theorem heapMayF_any (w : World) (ab r : Nat) (P : List Bk) (ao : Option Addr) (cap : Nat) (b : Bk) (hA : AllI w ab r P ao cap) (hP : ∀ i, i < P.length → InP (P.getD i .zero)) (hn : P.length ≤ 4096) (hb : InP b) :
    Calls Try.prog 38 #[.agg #[.int .i64 b.a, .int .i64 b.o, .int .i64 b.t], .pointer (some ⟨ab, 0, none⟩)] w fun e w' => AddR w w' ab r P b e := by
 obtain ⟨a, o, t⟩ := b
 obtain ⟨h1, h2, h3⟩ := hb
 dsimp only at h1 h2 h3 ⊢
 have hp := pw_pos o
 have hp16 := pw_le h1
 obtain ⟨i1, hj, hy0, hy1, hy2⟩ := info_parts info_block
 have hbb := below_box w (.cells #[.int .i64 a, .int .i64 o, .int .i64 t] 72)
 have y0 : (w.alloc (.cells #[.int .i64 a, .int .i64 o, .int .i64 t] 72)).cell? ⟨w.heap.size, 0, none⟩ = some (.int .i64 a) := by go_simp
 have y1 : (w.alloc (.cells #[.int .i64 a, .int .i64 o, .int .i64 t] 72)).cell? ⟨w.heap.size, 1, none⟩ = some (.int .i64 o) := by go_simp
 have y2 : (w.alloc (.cells #[.int .i64 a, .int .i64 o, .int .i64 t] 72)).cell? ⟨w.heap.size, 2, none⟩ = some (.int .i64 t) := by go_simp
 have hA0 := hA.below hbb
 obtain ⟨W0, hW0⟩ : ∃ W0, w.alloc (.cells #[.int .i64 a, .int .i64 o, .int .i64 t] 72) = W0 := ⟨_, rfl⟩
 rw [hW0] at hbb y0 y1 y2 hA0
 have HW0 : Hid _ := hW0
 clear hW0
 have c0 := hA0.c
 obtain ⟨PW, hPW⟩ : ∃ PW, pw o = PW := ⟨_, rfl⟩
 have HPW : Hid (pw o = PW) := hPW
 have HPow := fun W => power_v o PW (by unfold ordOk at h1; omega) (by unfold ordOk at h1; omega) hPW W
 rw [hPW] at hp hp16 h3
 have hBk : ∀ d, Blks (W0.drewN d) ao P.length P := fun d => (blks_own hA0.own (by omega)).below (below_drawn d)
 obtain ⟨n, hnn⟩ : ∃ n, P.length = n := ⟨_, rfl⟩
 have hab := hA.lt
 clear hPW
 by_cases hov : ovlP P a o
 ·have HO := fun d => overlaps_b (W0.drewN d) ao P.length cap P a o true (hBk d) hP h1 h2 (by omega) ⟨fun _ => hov, fun _ => rfl⟩
  have HV : Hid _ := hov
  clear hBk hov
  rw [hnn] at HO c0
  clear hnn
  go_enter Try.func38, Try.ntmps38
  go_wp2_with (rw [HW0.out])
  go_quiet (first | (go_at_call 39; exact Calls.quiet_of (HO _)) | (go_at_call 40; exact Calls.quiet_of_same (HPow _)))
  go_wp2
  go_ret
  exact .inr ⟨rfl, HV.out, hbb.trans ((below_drawn _).mono hbb.size)⟩
 ·have HO := fun d => overlaps_b (W0.drewN d) ao P.length cap P a o false (hBk d) hP h1 h2 (by omega) ⟨fun h => (by cases h), fun h => absurd h hov⟩
  have HV : Hid _ := hov
  have t1 : decide (a < 0) = false := decide_eq_false (by omega)
  have t2 : decide ((256 : Int) < a + PW) = false := decide_eq_false (by omega)
  have w1 : IntKind.i64.wrap (a + PW) = a + PW := IntWalk.i64_in _ (by omega)
  clear hBk hov
  have HNN : Hid _ := hnn
  rw [hnn] at HO c0
  clear hnn
  go_enter Try.func38, Try.ntmps38
  go_wp2_with (rw [HW0.out])
  go_quiet (first | (go_at_call 39; exact Calls.quiet_of (HO _)) | (go_at_call 40; exact Calls.quiet_of_same (HPow _)))
  have hB1 := hbb.trans ((below_drawn nq).mono hbb.size)
  have A1 := hA0.below (below_drawn nq)
  replace y0 := keep y0 (below_drawn nq)
  replace y1 := keep y1 (below_drawn nq)
  replace y2 := keep y2 (below_drawn nq)
  generalize W0.drewN nq = W1 at hB1 A1 y0 y1 y2 ⊢
  clear HO HPow c0 t1 t2 w1 hA0 HW0
  have A2 := A1.below (below_box W1 (.cells #[.int .i64 a, .int .i64 o, .int .i64 t] 72))
  have hs2 : ab + 1 ≤ (W1.alloc (.cells #[.int .i64 a, .int .i64 o, .int .i64 t] 72)).heap.size := by have := A2.lt; omega
  obtain ⟨g', cap', W6, hrun, o6, hc6⟩ := append_row (P := Try.prog) (W1.alloc (.cells #[.int .i64 a, .int .i64 o, .int .i64 t] 72)) (ab + 1) 25 25 72 i1 _ 3 Try.underlying25 hj hy0 hy1 rfl ao P.length cap (bvals P) A2.own ⟨W1.heap.size, 0, none⟩ 1 1 [.int .i64 a, .int .i64 o, .int .i64 t] rfl (cell_three_new _ _ _ _ _) (ints_oneCell .i64 [_, _, _]) (by omega) (by unfold maxLen; omega) (by rw [hy2]; omega) hs2
  have o6' : W6.ownsRow (ab + 1) 72 3 (.slice (some ⟨g', 0, none⟩) (P.length + 1) cap') (P.length + 1) (bvals (P ++ [⟨a, o, t⟩])) := by rw [bvals_append]; exact o6
  have hg6 : ab + 1 ≤ g' := (o6'.lt _ rfl).1
  have hB2 : Below w.heap.size w (W1.alloc (.cells #[.int .i64 a, .int .i64 o, .int .i64 t] 72)) := hB1.trans ((below_box _ _).mono hB1.size)
  have hU : Bu2 r ab w W6 ∧ (g' = r ∨ w.heap.size ≤ g') := by
   rcases hc6 with ⟨e, hbt⟩ | ⟨e, hbl⟩
   ·have : g' = r := A2.r _ e
    subst this
    exact ⟨(Bu2.of_below hB2).trans (Bu2.of_but_g hbt), .inl rfl⟩
   ·exact ⟨(Bu2.of_below hB2).trans (Bu2.of_below hbl), .inr (by have := hB2.size; omega)⟩
  have hcell : (∃ v, W6.cell? ⟨ab, 0, none⟩ = some v) ∧ W6.frozen? ⟨ab, 0, none⟩ = false := by
   rcases hc6 with ⟨e, hbt⟩ | ⟨e, hbl⟩
   ·exact ⟨⟨_, hbt.cell A2.c (by omega)⟩, (World.frozen?_of_block (a := ⟨ab, 0, none⟩) (hbt.block ab A2.lt (by omega))).trans A2.z⟩
   ·exact ⟨⟨_, keep A2.c hbl⟩, (hbl.frozen (p := ⟨ab, 0, none⟩) A2.lt).trans A2.z⟩
  obtain ⟨⟨v6, c6⟩, z6⟩ := hcell
  have hfin : AddR w (W6.setCell ⟨ab, 0, none⟩ (.slice (some ⟨g', 0, none⟩) (P.length + 1) cap')) ab r P ⟨a, o, t⟩ (.returned (.bool true)) := by
   have hbs : But ab W6 (W6.setCell ⟨ab, 0, none⟩ (.slice (some ⟨g', 0, none⟩) (P.length + 1) cap')) := (But.refl ab W6).setCell (o := 0) _
   have hl : (P ++ [(⟨a, o, t⟩ : Bk)]).length = P.length + 1 := by simp
   refine .inl ⟨rfl, HV.out, g', some ⟨g', 0, none⟩, cap', ⟨?_, by simpa using z6, ?_, fun a ha => by cases ha; rfl⟩, hU.2, hU.1.trans (Bu2.of_but_z hbs)⟩
   ·rw [hl]; exact World.cell?_setCell_same _ _ _ c6
   ·rw [hl]; exact own_but o6' hbs (by omega)
  have HF : Hid (∀ e, e = .returned (.bool true) → AddR w (W6.setCell ⟨ab, 0, none⟩ (.slice (some ⟨g', 0, none⟩) (P.length + 1) cap')) ab r P ⟨a, o, t⟩ e) := fun e he => he ▸ hfin
  have HR : Hid _ := hrun
  have c1 := A1.c
  rw [HNN.out] at c1 HR HF
  clear hfin hrun hc6 o6 o6' hU A2 A1 hB2
  go_wp2_with (at_builtin; refine Lib.wpList_append_run _ rfl (.tmp 24) (.tmp 26) 25 25 rfl _ _ rfl rfl _ _ HR.out ?_)
  go_ret
  exact HF.out _ rfl
theorem ahead_b (w : World) (a b : Ls) (po po' : Value) (r : Bool) (hr : r = true ↔ aheadL a b) :
    Calls Try.prog 41 #[.agg #[.int .i64 a.c, .int .i64 a.z, .int .i64 a.t, po], .agg #[.int .i64 b.c, .int .i64 b.z, .int .i64 b.t, po']] w fun e w' => e = .returned (.bool r) ∧ Below w.heap.size w w' := by
 have hb1 := below_box w (.cells #[.int .i64 a.c, .int .i64 a.z, .int .i64 a.t, po] 77)
 have hb2 := below_box (w.alloc (.cells #[.int .i64 a.c, .int .i64 a.z, .int .i64 a.t, po] 77)) (.cells #[.int .i64 b.c, .int .i64 b.z, .int .i64 b.t, po'] 77)
 have hb0 := hb1.trans (hb2.mono hb1.size)
 obtain ⟨ac, az, at', ap⟩ := a
 obtain ⟨bc, bz, bt, bp⟩ := b
 unfold aheadL at hr
 dsimp only at hr hb0 ⊢
 clear hb1 hb2
 rcases (show ac < bc ∨ bc < ac ∨ ac = bc by omega) with h | h | h
 ·obtain rfl : r = true := hr.2 (.inl h)
  have q : decide (ac < bc) = true := decide_eq_true h
  clear hr
  go_enter Try.func41, Try.ntmps41
  go_wp2
  go_ret
  exact ⟨rfl, hb0⟩
 ·obtain rfl : r = false := by cases r with
   | false => rfl
   | true => have := hr.1 rfl; omega
  have q : decide (ac < bc) = false := decide_eq_false (by omega)
  have q1 : (ac == bc) = false := by simp; omega
  clear hr
  go_enter Try.func41, Try.ntmps41
  go_wp2
  go_ret
  exact ⟨rfl, hb0⟩
 ·subst h
  have q : decide (ac < ac) = false := decide_eq_false (by omega)
  have q1 : (ac == ac) = true := by simp
  rcases (show az < bz ∨ bz < az ∨ az = bz by omega) with h | h | h
  ·obtain rfl : r = true := hr.2 (.inr ⟨rfl, .inl h⟩)
   have q2 : decide (az < bz) = true := decide_eq_true h
   clear hr
   go_enter Try.func41, Try.ntmps41
   go_wp2
   go_ret
   exact ⟨rfl, hb0⟩
  ·obtain rfl : r = false := by cases r with
    | false => rfl
    | true => have := hr.1 rfl; omega
   have q2 : decide (az < bz) = false := decide_eq_false (by omega)
   have q3 : (az == bz) = false := by simp; omega
   clear hr
   go_enter Try.func41, Try.ntmps41
   go_wp2
   go_ret
   exact ⟨rfl, hb0⟩
  ·subst h
   have q2 : decide (az < az) = false := decide_eq_false (by omega)
   have q3 : (az == az) = true := by simp
   by_cases h : at' < bt
   ·obtain rfl : r = true := hr.2 (.inr ⟨rfl, .inr ⟨rfl, h⟩⟩)
    have q4 : decide (at' < bt) = true := decide_eq_true h
    clear hr
    go_enter Try.func41, Try.ntmps41
    go_wp2
    go_ret
    exact ⟨rfl, hb0⟩
   ·obtain rfl : r = false := by cases r with
     | false => rfl
     | true => have := hr.1 rfl; omega
    have q4 : decide (at' < bt) = false := decide_eq_false h
    clear hr
    go_enter Try.func41, Try.ntmps41
    go_wp2
    go_ret
    exact ⟨rfl, hb0⟩
theorem newOk_nat {f t : Int} (h : newOk f t) : ∃ F T : Nat, f = F ∧ t = T ∧ F ≤ T ∧ T ≤ 256 ∧ F % 16 = 0 ∧ T % 16 = 0 := by
 obtain ⟨h1, h2, h3, h4, h5⟩ := h
 exact ⟨f.toNat, t.toNat, by omega, by omega, by omega, by omega, by omega, by omega⟩
theorem zoneNew_nat (w : World) (f t : Nat) (h1 : f ≤ t) (h2 : t ≤ 256) (h3 : f % 16 = 0) (h4 : t % 16 = 0) :
    Calls Try.prog 65 #[.int .i64 f, .int .i64 t] w fun e w' => RetZone w.heap.size w' ⟨f, t, [], List.replicate ((t - f) / 8) 1⟩ e ∧ Below w.heap.size w w' := by
 have e1 : inB f 0 256 = true := inB_t (by omega)
 have e2 : inB t f 256 = true := inB_t (by omega)
 have m1 : (f : Int) % 16 = 0 := by omega
 have m2 : (t : Int) % 16 = 0 := by omega
 obtain ⟨i0, hi, hz0, hz1, hz2⟩ := info_parts info_int
 have hb2 : Below w.heap.size w ((w.alloc (.cells #[.int .i64 0, .int .i64 0, .slice none 0 0, .slice none 0 0] 70)).alloc (.cells #[.int .i64 f, .int .i64 t, .slice none 0 0, .slice none 0 0] 70)) := ((Below.refl _ _).alloc (Nat.le_refl _) _).alloc (by simp) _
 have R0 : Res4 ((w.alloc (.cells #[.int .i64 0, .int .i64 0, .slice none 0 0, .slice none 0 0] 70)).alloc (.cells #[.int .i64 f, .int .i64 t, .slice none 0 0, .slice none 0 0] 70)) w.heap.size := (zbox_new w _ _ _ _ _).res.below (below_box _ _)
 have Z0 : ZBox ((w.alloc (.cells #[.int .i64 0, .int .i64 0, .slice none 0 0, .slice none 0 0] 70)).alloc (.cells #[.int .i64 f, .int .i64 t, .slice none 0 0, .slice none 0 0] 70)) (w.heap.size + 1) (.int .i64 f) (.int .i64 t) (.slice none 0 0) (.slice none 0 0) := by
  have := zbox_new (w.alloc (.cells #[.int .i64 0, .int .i64 0, .slice none 0 0, .slice none 0 0] 70)) (.int .i64 f) (.int .i64 t) (.slice none 0 0) (.slice none 0 0) 70
  simpa using this
 obtain ⟨N, hN⟩ : ∃ N, N = (t - f) / 8 := ⟨_, rfl⟩
 have hN8 : f + 8 * N = t := by omega
 rw [← hN]
 have hs0 : w.heap.size + 2 ≤ ((w.alloc (.cells #[.int .i64 0, .int .i64 0, .slice none 0 0, .slice none 0 0] 70)).alloc (.cells #[.int .i64 f, .int .i64 t, .slice none 0 0, .slice none 0 0] 70)).heap.size := by simp
 clear hN
 obtain ⟨W0, hW0⟩ : ∃ W0, (w.alloc (.cells #[.int .i64 0, .int .i64 0, .slice none 0 0, .slice none 0 0] 70)).alloc (.cells #[.int .i64 f, .int .i64 t, .slice none 0 0, .slice none 0 0] 70) = W0 := ⟨_, rfl⟩
 rw [hW0] at hb2 R0 Z0 hs0
 have HW0 : Hid _ := hW0
 clear hW0
 go_enter Try.func65, Try.ntmps65
 go_wp2_with (go_at_call 36; refine (in_any _ _ _ _).mono ?_; rintro e w' ⟨rfl, rfl⟩)
 rw [HW0.out]
 clear e1 e2 m1 m2 HW0
 go_loopw [7] (fun pv wr => ∃ (k p c : Nat) (bo : Option Addr), p = f + 8 * k ∧ k ≤ N ∧ pv = .int .i64 p ∧ ZBox wr (w.heap.size + 1) (.int .i64 f) (.int .i64 t) (.slice none 0 0) (.slice bo k c) ∧ wr.ownsRow (w.heap.size + 2) 3 1 (.slice bo k c) k (vals (List.replicate k 1)) ∧ Res4 wr w.heap.size ∧ Below w.heap.size w wr ∧ w.heap.size + 2 ≤ wr.heap.size) (fun pv _ => f + 8 * N - (intOf pv).toNat)
 case atStart => exact ⟨0, f, 0, none, by omega, Nat.zero_le _, rfl, Z0, World.ownsRow_nil _ _ _ _, R0, hb2, hs0⟩
 case round =>
  obtain ⟨k, p, c, bo, hp, hk, rfl, Z, hown, R, hb, hs⟩ := hrel
  clear Z0 R0 hb2 hs0
  by_cases hlt : k < N
  ·have hpt : (p : Int) < t := by omega
   have hml : k + 1 ≤ maxLen := by unfold maxLen; omega
   have hsz : (k + 1) * 8 ≤ 140737488355328 := by omega
   have c3 := Z.c3
   go_wp2_with (at_builtin; refine wpList_append_own _ rfl (.tmp 38) (.tmp 39) 22 rfl (w.heap.size + 2) 3 i0 (.int .i64 0) 1 8 Try.underlying22 hi hz0 hz1 hz2 rfl (by decide) _ _ _ rfl (hown.alloc _) ⟨wr.heap.size, 0, none⟩ 1 1 [.int .i64 1] rfl rfl ?c1 ?c2 hml hsz ?c5 ?_)
   case c1 => exact cell_one_new' _ _ _
   case c2 => exact ints_oneCell .i64 [_]
   case c5 => simp; omega
   intro v' w3 hown' hgrow _
   have hb3 : Below (w.heap.size + 2) wr w3 := ((Below.refl _ _).alloc hs _).grown hgrow (by simp; omega) (fun g hg => (hown.lt g hg).1)
   have e9 : vals (List.replicate k 1) ++ [Value.int .i64 1] = vals (List.replicate (k + 1) 1) := by rw [List.replicate_succ', vals_append]; rfl
   rw [e9] at hown'
   obtain ⟨bo', c', rfl⟩ := owns_shape hown'
   have Z3 := Z.belowB hb3 (by omega)
   have R3 := R.belowB hb3 (by omega)
   have hB3 := hb.trans (hb3.mono (by omega))
   have hs3 := Nat.le_trans hs hb3.size
   have Z4 := Z3.set3 (.slice bo' (k + 1) c')
   have own4 := ownsRow_setCell_below hown' (a := ⟨w.heap.size + 1, 3, none⟩) (show w.heap.size + 1 < w.heap.size + 2 by omega) (.slice bo' (k + 1) c')
   have hbt : But (w.heap.size + 1) w3 (w3.setCell ⟨w.heap.size + 1, 3, none⟩ (.slice bo' (k + 1) c')) := (But.refl _ _).setCell _
   have R4 := R3.but hbt (by omega)
   have hB4 := hB3.trans (hbt.below (B := w.heap.size) (by omega) (by omega))
   have hs4 := Nat.le_trans hs3 hbt.size
   have c3' := Z3.c3
   have z3' := Z3.z3
   clear Z R hown hb hs hgrow hb3 Z3 R3 hB3 hs3 hown' hbt e9 c3
   go_wp2
   go_roundw
   case rel => exact ⟨k + 1, f + 8 * (k + 1), c', bo', rfl, by omega, by go_num, Z4, own4, R4, hB4, hs4⟩
   case measure => simp [intOf]; omega
  ·have hpt : ¬ (p : Int) < t := by omega
   obtain rfl : k = N := by omega
   have c0 := Z.c0
   have c1 := Z.c1
   have c2 := Z.c2
   have c3 := Z.c3
   obtain ⟨⟨x0, d0⟩, ⟨x1, d1⟩, ⟨x2, d2⟩, ⟨x3, d3⟩, z0, z1, z2, z3⟩ := id R
   go_wp2
   obtain ⟨k0, k1, k2, k3⟩ := res4 R (.int .i64 f) (.int .i64 t) (.slice none 0 0) (.slice bo k c)
   have hbt := but4 wr w.heap.size (.int .i64 f) (.int .i64 t) (.slice none 0 0) (.slice bo k c)
   refine bodyPost_ret (v := .tuple #[.agg #[.int .i64 f, .int .i64 t, .slice none 0 0, .slice bo k c], .int .i64 0]) (by simp [results, Try.results65, go_sem, k0, k1, k2, k3]) rfl ⟨⟨none, 0, 0, bo, k, c, rfl, ⟨Blks.nil _, hbt.nums (nums_of_owns hown (by omega)) (fun a ha => by have := owns_fresh hown a ha; omega)⟩, fresh_none _, (owns_fresh hown).mono (by omega)⟩, hb.trans (hbt.below (Nat.le_refl _) hb.size)⟩
theorem zoneNew_ok (w : World) (f t : Int) (h : newOk f t) :
    Calls Try.prog 65 #[.int .i64 f, .int .i64 t] w fun e w' => RetZone w.heap.size w' (newZ f t) e ∧ Below w.heap.size w w' := by
 obtain ⟨F, T, rfl, rfl, h1, h2, h3, h4⟩ := newOk_nat h
 have e : newZ (F : Int) T = ⟨F, T, [], List.replicate ((T - F) / 8) 1⟩ := by
  unfold newZ newTypes
  have : (((T : Int) - F) / 8).toNat = (T - F) / 8 := by omega
  rw [this]
 rw [e]
 exact zoneNew_nat w F T h1 h2 h3 h4
theorem zoneNew_no (w : World) (f t : Int) (h : ¬ newOk f t) :
    Calls Try.prog 65 #[.int .i64 f, .int .i64 t] w fun e w' => RetNone 1 e ∧ Below w.heap.size w w' := by
 have hb1 := below_box w (.cells #[.int .i64 0, .int .i64 0, .slice none 0 0, .slice none 0 0] 70)
 by_cases h1 : 0 ≤ f ∧ f ≤ 256
 ·by_cases h2 : f ≤ t ∧ t ≤ 256
  ·obtain ⟨F, rfl⟩ : ∃ F : Nat, f = F := ⟨f.toNat, by omega⟩
   obtain ⟨T, rfl⟩ : ∃ T : Nat, t = T := ⟨t.toNat, by omega⟩
   have e1 : inB (F : Int) 0 256 = true := inB_t h1
   have e2 : inB (T : Int) F 256 = true := inB_t h2
   by_cases h3 : (F : Int) % 16 = 0
   ·have h4 : ¬ (T : Int) % 16 = 0 := fun g => h ⟨by omega, by omega, by omega, h3, g⟩
    clear h h1 h2
    go_enter Try.func65, Try.ntmps65
    go_wp2_with (go_at_call 36; refine (in_any _ _ _ _).mono ?_; rintro e w' ⟨rfl, rfl⟩)
    exact bodyPost_ret (v := .tuple #[.agg #[.int .i64 0, .int .i64 0, .slice none 0 0, .slice none 0 0], .int .i64 1]) (by simp [results, Try.results65, go_sem]) rfl ⟨rfl, hb1⟩
   ·clear h h1 h2
    go_enter Try.func65, Try.ntmps65
    go_wp2_with (go_at_call 36; refine (in_any _ _ _ _).mono ?_; rintro e w' ⟨rfl, rfl⟩)
    exact bodyPost_ret (v := .tuple #[.agg #[.int .i64 0, .int .i64 0, .slice none 0 0, .slice none 0 0], .int .i64 1]) (by simp [results, Try.results65, go_sem]) rfl ⟨rfl, hb1⟩
  ·have e1 : inB f 0 256 = true := inB_t h1
   have e2 : inB t f 256 = false := inB_f h2
   clear h h1 h2
   go_enter Try.func65, Try.ntmps65
   go_wp2_with (go_at_call 36; refine (in_any _ _ _ _).mono ?_; rintro e w' ⟨rfl, rfl⟩)
   exact bodyPost_ret (v := .tuple #[.agg #[.int .i64 0, .int .i64 0, .slice none 0 0, .slice none 0 0], .int .i64 1]) (by simp [results, Try.results65, go_sem]) rfl ⟨rfl, hb1⟩
 ·have e1 : inB f 0 256 = false := inB_f h1
  clear h h1
  go_enter Try.func65, Try.ntmps65
  go_wp2_with (go_at_call 36; refine (in_any _ _ _ _).mono ?_; rintro e w' ⟨rfl, rfl⟩)
  exact bodyPost_ret (v := .tuple #[.agg #[.int .i64 0, .int .i64 0, .slice none 0 0, .slice none 0 0], .int .i64 1]) (by simp [results, Try.results65, go_sem]) rfl ⟨rfl, hb1⟩
theorem blockMay_any (w : World) (f t : Int) (fo to_ : Option Addr) (fn fc tn tc : Nat) (a o : Int) (h : newOk f t) :
    Calls Try.prog 66 #[.agg #[.int .i64 f, .int .i64 t, .slice fo fn fc, .slice to_ tn tc], .int .i64 a, .int .i64 o] w fun e w' => e = .returned (.bool (blkB f t a o)) ∧ Below w.heap.size w w' := by
 obtain ⟨h1, h2, h3, h4, h5⟩ := h
 have hb1 := below_box w (.cells #[.int .i64 f, .int .i64 t, .slice fo fn fc, .slice to_ tn tc] 70)
 by_cases p1 : 0 ≤ o ∧ o ≤ 4
 ·have e1 : inB o 0 4 = true := inB_t p1
  by_cases p2 : f ≤ a ∧ a ≤ t - 1
  ·have e2 : inB a f (t - 1) = true := inB_t p2
   obtain ⟨A, rfl⟩ : ∃ A : Nat, a = A := ⟨a.toNat, by omega⟩
   obtain ⟨P, hP, hP0⟩ : ∃ P : Nat, pw o = P ∧ 0 < P := ⟨(pw o).toNat, by have := pw_pos o; omega, by have := pw_pos o; omega⟩
   have hP1 : ((P : Int) == 0) = false := by simp; omega
   have HR : Hid (blkB f t (A : Int) o = decide ((A : Int) % P = 0)) := by show _ = _; unfold blkB; rw [e1, e2, hP]; rfl
   have hp16 : P ≤ 16 := by have := pw_le (show ordOk o from p1); omega
   have HP : Hid (pw o = P) := hP
   clear hP
   go_enter Try.func66, Try.ntmps66
   go_wp2_with (go_at_call 36; refine (in_any _ _ _ _).mono ?_; rintro e w' ⟨rfl, rfl⟩)
   go_at_call 40
   refine (power_any _ o p1.1 (by omega)).mono ?_
   rintro e w' ⟨rfl, rfl⟩
   rw [HP.out]
   by_cases d : (A : Int) % (P : Int) = 0
   ·have HR2 : Hid (blkB f t (A : Int) o = true) := by show _ = _; rw [HR.out]; exact decide_eq_true d
    clear HR HP
    go_wp2
    go_ret
    exact ⟨ret_bool HR2.out.symm, hb1⟩
   ·have HR2 : Hid (blkB f t (A : Int) o = false) := by show _ = _; rw [HR.out]; exact decide_eq_false d
    clear HR HP
    go_wp2
    go_ret
    exact ⟨ret_bool (by rw [HR2.out]; simpa using d), hb1⟩
  ·have e2 : inB a f (t - 1) = false := inB_f p2
   have HR : Hid (blkB f t a o = false) := by show _ = _; unfold blkB; rw [e1, e2]; rfl
   go_enter Try.func66, Try.ntmps66
   go_wp2_with (go_at_call 36; refine (in_any _ _ _ _).mono ?_; rintro e w' ⟨rfl, rfl⟩)
   go_ret
   exact ⟨ret_bool HR.out.symm, hb1⟩
 ·have e1 : inB o 0 4 = false := inB_f p1
  have HR : Hid (blkB f t a o = false) := by show _ = _; unfold blkB; rw [e1]; rfl
  go_enter Try.func66, Try.ntmps66
  go_wp2_with (go_at_call 36; refine (in_any _ _ _ _).mono ?_; rintro e w' ⟨rfl, rfl⟩)
  go_ret
  exact ⟨ret_bool HR.out.symm, hb1⟩
structure MyInv (w : World) (fo : Option Addr) (fn fc : Nat) (to_ : Option Addr) (tn tc : Nat) (z : Zn) (W : World) : Prop where
 b : Below w.heap.size w W
 box : ZBox W w.heap.size (.int .i64 z.f) (.int .i64 z.t) (.slice fo fn fc) (.slice to_ tn tc)
 zn : ZnAt W fo fn to_ tn z
theorem MyInv.step {w : World} {fo : Option Addr} {fn fc : Nat} {to_ : Option Addr} {tn tc : Nat} {z : Zn} {W W' : World} (h : MyInv w fo fn fc to_ tn tc z W) (hb : Below W.heap.size W W') : MyInv w fo fn fc to_ tn tc z W' :=
 ⟨h.b.trans (hb.mono h.b.size), h.box.below hb, h.zn.below hb⟩
theorem myInv_first (w : World) (fo : Option Addr) (fn fc : Nat) (to_ : Option Addr) (tn tc : Nat) (z : Zn) (h : ZnAt w fo fn to_ tn z) : MyInv w fo fn fc to_ tn tc z (w.alloc (.cells #[.int .i64 z.f, .int .i64 z.t, .slice fo fn fc, .slice to_ tn tc] 70)) :=
 ⟨below_box _ _, zbox_new _ _ _ _ _ _, h.below (below_box _ _)⟩
theorem zoneMay_any (w : World) (fo : Option Addr) (fn fc : Nat) (to_ : Option Addr) (tn tc : Nat) (z : Zn) (h : ZnAt w fo fn to_ tn z) :
    Calls Try.prog 37 #[.agg #[.int .i64 z.f, .int .i64 z.t, .slice fo fn fc, .slice to_ tn tc]] w fun e w' => RetIff e (ZMay z) ∧ Below w.heap.size w w' := by
 have I0 := myInv_first w fo fn fc to_ tn tc z h
 clear h
 by_cases hn : newOk z.f z.t
 ·go_enter Try.func37, Try.ntmps37
  go_wp2_with fail
  go_at_call 65
  refine (zoneNew_ok _ z.f z.t hn).mono ?_
  rintro e w1 ⟨⟨ao, an, ac, bo, bn, bc, rfl, _, _, _⟩, hb1⟩
  have I1 := (I0.step hb1).step (below_box w1 (.cells #[.int .i64 (newZ z.f z.t).f, .int .i64 (newZ z.f z.t).t, .slice ao an ac, .slice bo bn bc] 70))
  clear I0 hb1
  have hbox := I1.box
  have c0 := hbox.c0
  have c1 := hbox.c1
  have c2 := hbox.c2
  have c3 := hbox.c3
  have htl := I1.zn.types.len
  have htr := I1.zn.types.reach
  obtain ⟨h1, h2, h3, h4, h5⟩ := id hn
  by_cases hlen : 8 * (tn : Int) = z.t - z.f
  ·go_wp2
   clear hbox c0 c1 c2 c3
   obtain ⟨W2, hW2⟩ : ∃ W2, w1.alloc (.cells #[.int .i64 (newZ z.f z.t).f, .int .i64 (newZ z.f z.t).t, .slice ao an ac, .slice bo bn bc] 70) = W2 := ⟨_, rfl⟩
   rw [hW2] at I1 ⊢
   clear hW2
   go_loopw [5] (fun iv wr => ∃ k : Nat, k ≤ tn ∧ iv = .int .i64 k ∧ Hid (∀ i, i < k → typeOk (z.types.getD i 0)) ∧ MyInv w fo fn fc to_ tn tc z wr) (fun iv _ => tn - (intOf iv).toNat)
   case atStart => exact ⟨0, Nat.zero_le _, rfl, (fun i hi => absurd hi (Nat.not_lt_zero i)), I1⟩
   case round =>
    obtain ⟨k, hk, rfl, hT, I⟩ := hrel
    clear I1
    have c3 := I.box.c3
    by_cases hlt : k < tn
    ·obtain ⟨b, o, x, rfl, cx, hX⟩ := I.zn.types.at_.at k (by omega)
     by_cases hx : 0 ≤ x ∧ x ≤ 2
     ·have e1 : inB x 0 2 = true := inB_t hx
      have hT' : Hid (∀ i, i < k + 1 → typeOk (z.types.getD i 0)) := fun i hi => by
       by_cases e : i = k
       ·rw [e, hX.out]; exact hx
       ·exact hT.out i (by omega)
      clear hT hx
      go_wp2_with (go_at_call 36; refine (in_any _ _ _ _).mono ?_; rintro e w' ⟨rfl, rfl⟩)
      go_roundw
      case rel => exact ⟨k + 1, by omega, by go_num, hT', I⟩
      case measure => simp [intOf]; omega
     ·have e1 : inB x 0 2 = false := inB_f hx
      have HF : Hid (¬ ZMay z) := fun g => hx (by have := g.ty k (by omega); rw [hX.out] at this; exact this)
      have hbb := I.b
      clear hT hx I
      go_wp2_with (go_at_call 36; refine (in_any _ _ _ _).mono ?_; rintro e w' ⟨rfl, rfl⟩)
      go_ret
      exact ⟨⟨false, rfl, fun g => (by cases g), fun g => absurd g HF.out⟩, hbb⟩
    ·have hty : Hid (∀ i, i < z.types.length → typeOk (z.types.getD i 0)) := fun i hi => hT.out i (by omega)
     have c0 := I.box.c0
     have c2 := I.box.c2
     clear hT
     go_wp2
     clear c0 c2 c3
     go_loopw [6, 7] (fun lv iv wr2 => ∃ (k : Nat) (q : Int), k ≤ fn ∧ iv = .int .i64 k ∧ lv = .int .i64 q ∧ Hid (lowOf z.f (z.free.take k) = q) ∧ Hid (FreeOk z.f z.t z.f none (z.free.take k)) ∧ MyInv w fo fn fc to_ tn tc z wr2) (fun _ iv _ => fn - (intOf iv).toNat)
     case atStart => exact ⟨0, z.f, Nat.zero_le _, rfl, rfl, rfl, trivial, I⟩
     case round =>
      obtain ⟨k2, q, hk2, rfl, rfl, hq, hF, I2⟩ := hrel
      clear I
      have hfl := I2.zn.free.len
      have hfr := I2.zn.free.reach
      have c2 := I2.box.c2
      by_cases hlt2 : k2 < fn
      ·obtain ⟨bb, bf, x, y, u, rfl, x0, x1, x2, hX⟩ := I2.zn.free.at_.at k2 (by omega)
       have htk := take_getD z.free k2 (by omega) hX.out
       have hbx := below_box wr (.cells #[.int .i64 x, .int .i64 y, .int .i64 u] 72)
       have I3 := I2.step hbx
       have y0 : (wr.alloc (.cells #[.int .i64 x, .int .i64 y, .int .i64 u] 72)).cell? ⟨wr.heap.size, 0, none⟩ = some (.int .i64 x) := by go_simp
       have y1 : (wr.alloc (.cells #[.int .i64 x, .int .i64 y, .int .i64 u] 72)).cell? ⟨wr.heap.size, 1, none⟩ = some (.int .i64 y) := by go_simp
       have y2 : (wr.alloc (.cells #[.int .i64 x, .int .i64 y, .int .i64 u] 72)).cell? ⟨wr.heap.size, 2, none⟩ = some (.int .i64 u) := by go_simp
       have b0 := I3.box.c0
       have b1 := I3.box.c1
       have b2 := I3.box.c2
       have b3 := I3.box.c3
       go_wp2_with fail
       go_at_call 66
       refine (blockMay_any _ z.f z.t _ to_ fn fc tn tc x y hn).mono ?_
       rintro e w4 ⟨rfl, hb4⟩
       have I4 := I3.step hb4
       replace y0 := keep y0 hb4
       replace y1 := keep y1 hb4
       replace y2 := keep y2 hb4
       clear I2 I3 hbx b0 b1 b2 b3 c2 x0 x1 x2 hb4
       have hbb := I4.b
       by_cases hB : blkIn z.f z.t x y
       ·have hB2 := (blkB_iff z.f z.t x y).2 hB
        rw [hB2]
        clear hB2
        by_cases hU : 0 ≤ u ∧ u ≤ 2
        ·have e1 : inB u 0 2 = true := inB_t hU
         by_cases hlow : x < q
         ·have HF : Hid (¬ ZMay z) := fun g => by have := (freeOk_at g.free (by omega) hX.out).2.2.1; rw [hq.out] at this; dsimp only at this; omega
          clear hF hq hX htk hty
          go_wp2_with (go_at_call 36; refine (in_any _ _ _ _).mono ?_; rintro e w' ⟨rfl, rfl⟩)
          go_ret
          exact ⟨⟨false, rfl, fun g => (by cases g), fun g => absurd g HF.out⟩, hbb⟩
         ·obtain ⟨o1, o2, o3, o4⟩ := id hB
          obtain ⟨o5, o6⟩ := id o1
          have hp1 := pw_pos y
          have hp2 := pw_le o1
          have hq' : Hid (lowOf z.f (z.free.take (k2 + 1)) = x + pw y) := by show _ = _; rw [htk, lowOf_snoc]
          have hFk : (∀ p, lastOf none (z.free.take k2) = some p → ¬ besideP p ⟨x, y, u⟩) → Hid (FreeOk z.f z.t z.f none (z.free.take (k2 + 1))) := fun g => by
           show FreeOk _ _ _ _ _
           rw [htk, freeOk_snoc]
           exact ⟨hF.out, hB, hU, by rw [hq.out]; dsimp only; omega, g⟩
          have HFk : Hid _ := hFk
          clear hFk
          have c2 := I4.box.c2
          go_wp2_with (go_at_call 36; refine (in_any _ _ _ _).mono ?_; rintro e w' ⟨rfl, rfl⟩)
          go_quiet ((go_at_call 40; exact Calls.quiet_of_same (power_q y o5 (by omega) _)))
          have hbq := below_drawn (w := w4) nq
          have IE := I4.step hbq
          replace y0 := keep y0 hbq
          replace y1 := keep y1 hbq
          replace y2 := keep y2 hbq
          obtain ⟨W5, hW5⟩ : ∃ W5, w4.drewN nq = W5 := ⟨_, rfl⟩
          rw [hW5] at IE y0 y1 y2 ⊢
          clear hW5 hbq I4 c2 hbb
          have c2 := IE.box.c2
          have hbb := IE.b
          by_cases hk0 : k2 = 0
          ·subst hk0
           have hF' := HFk.out (fun p hp => by cases hp)
           clear HFk hF hq htk
           go_wp2
           go_quiet (fail)
           go_wp2
           go_roundw
           case rel => exact ⟨0 + 1, x + pw y, by omega, by go_num, by go_num, hq', hF', IE.step (below_drawn _)⟩
           case measure => simp [intOf]; omega
          ·obtain ⟨j, rfl⟩ : ∃ j, k2 = j + 1 := ⟨k2 - 1, by omega⟩
           obtain ⟨bb', bf', x', y', u', he, p0, p1, p2, hX'⟩ := IE.zn.free.at_.at j (by omega)
           cases he
           have hpv := freeOk_at hF.out (k := j) (by simp; omega) (b := ⟨x', y', u'⟩) (by
            have := hX'.out
            rw [List.getD_eq_getElem?_getD, List.getElem?_take, if_pos (by omega), ← List.getD_eq_getElem?_getD]
            exact this)
           obtain ⟨⟨v1, v2, v3, v4⟩, _, _, _⟩ := hpv
           dsimp only at v1 v2 v3 v4
           have hlast : lastOf none (z.free.take (j + 1)) = some ⟨x', y', u'⟩ := by rw [take_getD z.free j (by omega) hX'.out, lastOf_snoc]
           obtain ⟨P, HP'⟩ : ∃ P, pw y = P := ⟨_, rfl⟩
           have HP : Hid (pw y = P) := HP'
           rw [HP'] at hp1 hp2
           have hjj : ((j + 1 : Nat) : Int) = (j : Int) + 1 := by simp
           have hj1 : (j : Int) < fn := by omega
           have hj2 : j < fn := by omega
           have t0 : decide ((0 : Int) < (j : Int) + 1) = true := decide_eq_true (by omega)
           have hno : ¬ besideP ⟨x', y', u'⟩ ⟨x, y, u⟩ → Hid (FreeOk z.f z.t z.f none (z.free.take (j + 1 + 1))) := fun g => HFk.out (fun p hp => by rw [hlast] at hp; cases hp; exact g)
           have Hno : Hid _ := hno
           clear hno
           by_cases q1 : y < 4
           ·obtain ⟨X, rfl⟩ : ∃ X : Nat, x' = X := ⟨x'.toNat, by omega⟩
            obtain ⟨P2, HP2', hP2p, hP2q⟩ : ∃ P2 : Nat, pw (y + 1) = P2 ∧ 0 < P2 ∧ P2 ≤ 16 := ⟨(pw (y + 1)).toNat, by have := pw_pos (y + 1); omega, by have := pw_pos (y + 1); omega, by have := pw_le (o := y + 1) ⟨by omega, by omega⟩; omega⟩
            obtain ⟨Y1, hY1⟩ : ∃ Y1, y + 1 = Y1 := ⟨_, rfl⟩
            have HP2 : Hid (pw Y1 = P2) := by rw [← hY1]; exact HP2'
            have HY1 : Hid (y + 1 = Y1) := hY1
            have hP20 : ((P2 : Int) == 0) = false := by simp; omega
            clear HP2' HP'
            by_cases q2 : y = y'
            ·subst q2
             by_cases q3 : (X : Int) + P = x
             ·have q3' : ((X : Int) + P == x) = true := by simpa using q3
              by_cases q4 : (X : Int) % (P2 : Int) = 0
              ·have q4' : ((X : Int) % (P2 : Int) == 0) = true := by simpa using q4
               have HF : Hid (¬ ZMay z) := fun g => (freeOk_at g.free (by omega) hX.out).2.2.2 _ hlast ⟨q1, rfl, by dsimp only; rw [HP.out]; exact q3, by dsimp only; rw [HY1.out, HP2.out]; exact q4⟩
               clear Hno HFk hF hq htk hlast hX hX' hty q3 q4
               go_wp2
               go_quiet (first | (go_at_call_of 40 Y1; exact Calls.quiet_of_same (power_v Y1 P2 (by omega) (by omega) HP2.out _)) | (go_at_call_of 40 y; exact Calls.quiet_of_same (power_v y P o5 (by omega) HP.out _)))
               go_wp2
               go_ret
               exact ⟨⟨false, rfl, fun g => (by cases g), fun g => absurd g HF.out⟩, below_drewN hbb _⟩
              ·have q4' : ((X : Int) % (P2 : Int) == 0) = false := by simpa using q4
               have hF' := Hno.out (fun g => q4 (by have := g.2.2.2; dsimp only at this; rw [HY1.out, HP2.out] at this; exact this))
               clear Hno HFk hF hq htk hlast hX hX' hty q3 q4
               go_wp2
               go_quiet (first | (go_at_call_of 40 Y1; exact Calls.quiet_of_same (power_v Y1 P2 (by omega) (by omega) HP2.out _)) | (go_at_call_of 40 y; exact Calls.quiet_of_same (power_v y P o5 (by omega) HP.out _)))
               go_wp2
               go_roundw
               case rel => exact ⟨(j + 1) + 1, x + pw y, by omega, by go_num, by go_num, hq', hF', IE.step (below_drawn _)⟩
               case measure => simp [intOf]; omega
             ·have q3' : ((X : Int) + P == x) = false := by simpa using q3
              have hF' := Hno.out (fun g => q3 (by have := g.2.2.1; dsimp only at this; rw [HP.out] at this; exact this))
              clear Hno HFk hF hq htk hlast hX hX' hty q3
              go_wp2
              go_quiet (first | (go_at_call_of 40 Y1; exact Calls.quiet_of_same (power_v Y1 P2 (by omega) (by omega) HP2.out _)) | (go_at_call_of 40 y; exact Calls.quiet_of_same (power_v y P o5 (by omega) HP.out _)))
              go_wp2
              go_roundw
              case rel => exact ⟨(j + 1) + 1, x + pw y, by omega, by go_num, by go_num, hq', hF', IE.step (below_drawn _)⟩
              case measure => simp [intOf]; omega
            ·have q2' : (y' == y) = false := by simp; exact fun g => q2 g.symm
             have hF' := Hno.out (fun g => q2 g.2.1.symm)
             clear Hno HFk hF hq htk hlast hX hX' hty q2
             go_wp2
             go_quiet (first | (go_at_call_of 40 Y1; exact Calls.quiet_of_same (power_v Y1 P2 (by omega) (by omega) HP2.out _)) | (go_at_call_of 40 y; exact Calls.quiet_of_same (power_v y P o5 (by omega) HP.out _)))
             go_wp2
             go_roundw
             case rel => exact ⟨(j + 1) + 1, x + pw y, by omega, by go_num, by go_num, hq', hF', IE.step (below_drawn _)⟩
             case measure => simp [intOf]; omega
           ·have hF' := Hno.out (fun g => q1 g.1)
            have q1' : decide (y < 4) = false := decide_eq_false q1
            clear Hno HFk hF hq htk hlast hX hX' hty
            go_wp2
            go_quiet (fail)
            go_wp2
            go_roundw
            case rel => exact ⟨(j + 1) + 1, x + pw y, by omega, by go_num, by go_num, hq', hF', IE.step (below_drawn _)⟩
            case measure => simp [intOf]; omega
        ·have e1 : inB u 0 2 = false := inB_f hU
         have HF : Hid (¬ ZMay z) := fun g => hU (freeOk_at g.free (by omega) hX.out).2.1
         clear hF hq hX htk hty
         go_wp2_with (go_at_call 36; refine (in_any _ _ _ _).mono ?_; rintro e w' ⟨rfl, rfl⟩)
         go_ret
         exact ⟨⟨false, rfl, fun g => (by cases g), fun g => absurd g HF.out⟩, hbb⟩
       ·have hB2 : blkB z.f z.t x y = false := by
         cases hb : blkB z.f z.t x y with
         | false => rfl
         | true => exact absurd ((blkB_iff z.f z.t x y).1 hb) hB
        rw [hB2]
        have HF : Hid (¬ ZMay z) := fun g => hB (freeOk_at g.free (by omega) hX.out).1
        clear hF hq hX htk hty
        go_wp2
        go_ret
        exact ⟨⟨false, rfl, fun g => (by cases g), fun g => absurd g HF.out⟩, hbb⟩
      ·have HM : Hid (ZMay z) := ⟨hn, by rw [htl]; exact hlen, hty.out, by have := hF.out; rw [List.take_of_length_le (by omega)] at this; exact this⟩
       have hbb := I2.b
       clear hF hq hty
       go_wp2
       go_ret
       exact ⟨⟨true, rfl, fun _ => HM.out, fun _ => rfl⟩, hbb⟩
  ·have HF : Hid (¬ ZMay z) := fun g => hlen (by have := g.len; rw [htl] at this; exact this)
   go_wp2
   go_ret
   exact ⟨⟨false, rfl, fun g => (by cases g), fun g => absurd g HF.out⟩, I1.b⟩
 ·go_enter Try.func37, Try.ntmps37
  go_wp2_with fail
  go_at_call 65
  refine (zoneNew_no _ z.f z.t hn).mono ?_
  rintro e w1 ⟨rfl, hb1⟩
  have I1 := I0.step hb1
  have HF : Hid (¬ ZMay z) := fun g => hn g.new
  have hbx := I1.b.trans ((below_box w1 (.cells #[.int .i64 0, .int .i64 0, .slice none 0 0, .slice none 0 0] 70)).mono I1.b.size)
  clear I0 I1 hb1 hn
  go_wp2
  go_ret
  exact ⟨⟨false, rfl, fun g => (by cases g), fun g => absurd g HF.out⟩, hbx⟩
theorem pIsMin_any (w : World) (x : Int) :
    Calls Try.prog 54 #[.int .i64 x] w fun e w' => e = .returned (.bool (inB x 0 256)) ∧ w = w' := by
 by_cases h1 : 0 ≤ x
 ·by_cases h2 : x ≤ 256
  ·have HR : Hid (inB x 0 256 = true) := inB_t (by omega)
   go_enter Try.func54, Try.ntmps54
   go_wp2
   go_ret
   exact ⟨ret_bool HR.out.symm, rfl⟩
  ·have HR : Hid (inB x 0 256 = false) := inB_f (by omega)
   go_enter Try.func54, Try.ntmps54
   go_wp2
   go_ret
   exact ⟨ret_bool HR.out.symm, rfl⟩
 ·have HR : Hid (inB x 0 256 = false) := inB_f (by omega)
  go_enter Try.func54, Try.ntmps54
  go_wp2
  go_ret
  exact ⟨ret_bool HR.out.symm, rfl⟩
theorem pAreCpus_any (w : World) (x : Int) :
    Calls Try.prog 28 #[.int .i64 x] w fun e w' => e = .returned (.bool (inB x 1 4)) ∧ w = w' := by
 by_cases h1 : 1 ≤ x
 ·by_cases h2 : x ≤ 4
  ·have HR : Hid (inB x 1 4 = true) := inB_t (by omega)
   go_enter Try.func28, Try.ntmps28
   go_wp2
   go_ret
   exact ⟨ret_bool HR.out.symm, rfl⟩
  ·have HR : Hid (inB x 1 4 = false) := inB_f (by omega)
   go_enter Try.func28, Try.ntmps28
   go_wp2
   go_ret
   exact ⟨ret_bool HR.out.symm, rfl⟩
 ·have HR : Hid (inB x 1 4 = false) := inB_f (by omega)
  go_enter Try.func28, Try.ntmps28
  go_wp2
  go_ret
  exact ⟨ret_bool HR.out.symm, rfl⟩
theorem pIsOrder_any (w : World) (x : Int) :
    Calls Try.prog 57 #[.int .i64 x] w fun e w' => e = .returned (.bool (inB x 0 4)) ∧ w = w' := by
 by_cases h1 : 0 ≤ x
 ·by_cases h2 : x ≤ 4
  ·have HR : Hid (inB x 0 4 = true) := inB_t (by omega)
   go_enter Try.func57, Try.ntmps57
   go_wp2
   go_ret
   exact ⟨ret_bool HR.out.symm, rfl⟩
  ·have HR : Hid (inB x 0 4 = false) := inB_f (by omega)
   go_enter Try.func57, Try.ntmps57
   go_wp2
   go_ret
   exact ⟨ret_bool HR.out.symm, rfl⟩
 ·have HR : Hid (inB x 0 4 = false) := inB_f (by omega)
  go_enter Try.func57, Try.ntmps57
  go_wp2
  go_ret
  exact ⟨ret_bool HR.out.symm, rfl⟩
theorem pIsType_any (w : World) (x : Int) :
    Calls Try.prog 58 #[.int .i64 x] w fun e w' => e = .returned (.bool (inB x 0 2)) ∧ w = w' := by
 by_cases h1 : 0 ≤ x
 ·by_cases h2 : x < 3
  ·have HR : Hid (inB x 0 2 = true) := inB_t (by omega)
   go_enter Try.func58, Try.ntmps58
   go_wp2
   go_ret
   exact ⟨ret_bool HR.out.symm, rfl⟩
  ·have HR : Hid (inB x 0 2 = false) := inB_f (by omega)
   go_enter Try.func58, Try.ntmps58
   go_wp2
   go_ret
   exact ⟨ret_bool HR.out.symm, rfl⟩
 ·have HR : Hid (inB x 0 2 = false) := inB_f (by omega)
  go_enter Try.func58, Try.ntmps58
  go_wp2
  go_ret
  exact ⟨ret_bool HR.out.symm, rfl⟩
theorem pIsCpu_any (w : World) (a b c d : Value) (n x : Int) :
    Calls Try.prog 74 #[.agg #[a, b, .int .i64 n, c, d], .int .i64 x] w fun e w' => e = .returned (.bool (inB x 0 (n - 1))) ∧ Below w.heap.size w w' := by
 have hb1 := below_box w (.cells #[a, b, .int .i64 n, c, d] 27)
 by_cases h1 : 0 ≤ x
 ·by_cases h2 : x < n
  ·have HR : Hid (inB x 0 (n - 1) = true) := inB_t (by omega)
   go_enter Try.func74, Try.ntmps74
   go_wp2
   go_ret
   exact ⟨ret_bool HR.out.symm, hb1⟩
  ·have HR : Hid (inB x 0 (n - 1) = false) := inB_f (by omega)
   go_enter Try.func74, Try.ntmps74
   go_wp2
   go_ret
   exact ⟨ret_bool HR.out.symm, hb1⟩
 ·have HR : Hid (inB x 0 (n - 1) = false) := inB_f (by omega)
  go_enter Try.func74, Try.ntmps74
  go_wp2
  go_ret
  exact ⟨ret_bool HR.out.symm, hb1⟩
theorem pIsPage_any (w : World) (f t x : Int) (u v : Value) :
    Calls Try.prog 77 #[.agg #[.int .i64 f, .int .i64 t, u, v], .int .i64 x] w fun e w' => e = .returned (.bool (inB x f (t - 1))) ∧ Below w.heap.size w w' := by
 have hb1 := below_box w (.cells #[.int .i64 f, .int .i64 t, u, v] 70)
 by_cases h1 : f ≤ x
 ·by_cases h2 : x < t
  ·have HR : Hid (inB x f (t - 1) = true) := inB_t (by omega)
   go_enter Try.func77, Try.ntmps77
   go_wp2
   go_ret
   exact ⟨ret_bool HR.out.symm, hb1⟩
  ·have HR : Hid (inB x f (t - 1) = false) := inB_f (by omega)
   go_enter Try.func77, Try.ntmps77
   go_wp2
   go_ret
   exact ⟨ret_bool HR.out.symm, hb1⟩
 ·have HR : Hid (inB x f (t - 1) = false) := inB_f (by omega)
  go_enter Try.func77, Try.ntmps77
  go_wp2
  go_ret
  exact ⟨ret_bool HR.out.symm, hb1⟩
def cmpI (a b : Int) : Int := if a < b then -1 else if b < a then 1 else 0
def orL : List Int → Int
 | [] => 0
 | x :: l => if x = 0 then orL l else x
theorem cmpNaN_any (w : World) (x : Int) : Calls Try.prog 94 #[.int .i64 x] w fun e w' => e = .returned (.bool false) ∧ w = w' := by
 have q : (x == x) = true := by simp
 go_enter Try.func94, Try.ntmps94
 go_wp2
 go_ret
 exact ⟨rfl, rfl⟩
theorem cmpCompare_any (w : World) (a b : Int) : Calls Try.prog 79 #[.int .i64 a, .int .i64 b] w fun e w' => e = .returned (.int .i64 (cmpI a b)) ∧ w = w' := by
 have HN := cmpNaN_any
 rcases (show a < b ∨ b < a ∨ a = b by omega) with h | h | h
 ·have HR : Hid (cmpI a b = -1) := by show _ = _; unfold cmpI; rw [if_pos h]
  go_enter Try.func79, Try.ntmps79
  go_wp2_with (go_at_call 94; refine (HN _ _).mono ?_; rintro e w' ⟨rfl, rfl⟩)
  go_ret
  exact ⟨by rw [HR.out]; rfl, rfl⟩
 ·have HR : Hid (cmpI a b = 1) := by show _ = _; unfold cmpI; rw [if_neg (by omega), if_pos h]
  go_enter Try.func79, Try.ntmps79
  go_wp2_with (go_at_call 94; refine (HN _ _).mono ?_; rintro e w' ⟨rfl, rfl⟩)
  go_ret
  exact ⟨by rw [HR.out]; rfl, rfl⟩
 ·have HR : Hid (cmpI a b = 0) := by show _ = _; unfold cmpI; rw [if_neg (by omega), if_neg (by omega)]
  subst h
  go_enter Try.func79, Try.ntmps79
  go_wp2_with (go_at_call 94; refine (HN _ _).mono ?_; rintro e w' ⟨rfl, rfl⟩)
  go_ret
  exact ⟨by rw [HR.out]; rfl, rfl⟩
theorem cmpOr_any (w : World) (ao : Option Addr) (n cap : Nat) (xs : List Int) (h : Nums w ao n xs) : Calls Try.prog 78 #[.slice ao n cap] w fun e w' => e = .returned (.int .i64 (orL xs)) ∧ w = w' := by
 have hn := h.len
 have hr := h.reach
 have hx := h.at_
 clear h
 go_enter Try.func78, Try.ntmps78
 go_wp2
 go_loopw [8] (fun i wr => ∃ k : Nat, k ≤ n ∧ i = .int .i64 k ∧ Hid (orL xs = orL (xs.drop k)) ∧ w = wr) (fun i _ => n - (intOf i).toNat)
 case atStart => exact ⟨0, Nat.zero_le _, rfl, rfl, rfl⟩
 case round =>
  obtain ⟨k, hk, rfl, hO, rfl⟩ := hrel
  by_cases hlt : k < n
  ·obtain ⟨b, off, x, rfl, c0, hX⟩ := hx.at k (by omega)
   have hd : xs.drop k = x :: xs.drop (k + 1) := by
    rw [List.drop_eq_getElem_cons (by omega)]
    congr 1
    have := hX.out
    rw [List.getD_eq_getElem?_getD, List.getElem?_eq_getElem (by omega)] at this
    exact this
   by_cases h0 : x = 0
   ·have HO : Hid (orL xs = orL (xs.drop (k + 1))) := by show _ = _; rw [hO.out, hd]; show (if x = 0 then _ else x) = _; rw [if_pos h0]
    subst h0
    clear hO hd hX
    go_wp2
    go_roundw
    case rel => exact ⟨k + 1, by omega, by go_num, HO, trivial⟩
    case measure => simp [intOf]; omega
   ·have HO : Hid (orL xs = x) := by show _ = _; rw [hO.out, hd]; show (if x = 0 then _ else x) = _; rw [if_neg h0]
    have h0' : (x == 0) = false := by simpa using h0
    clear hO hd hX
    go_wp2
    go_ret
    exact ⟨by rw [HO.out]; rfl, rfl⟩
  ·have HO : Hid (orL xs = 0) := by show _ = _; rw [hO.out, List.drop_eq_nil_of_le (by omega)]; rfl
   clear hO
   go_wp2
   go_ret
   exact ⟨by rw [HO.out]; rfl, rfl⟩
def Added (w' : World) (b : Nat) (h0 : Int → Bool) (a s : Nat) (e : Ending) : Prop :=
 (e = .returned (.bool true) ∧ (∀ p : Int, a ≤ p → p < a + s → h0 p = false) ∧ MarksAt w' b 95 (setH a s true h0)) ∨ (e = .returned (.bool false) ∧ ∃ p : Int, a ≤ p ∧ p < a + s ∧ h0 p = true)
theorem pAdd_any (w : World) (b : Nat) (h0 : Int → Bool) (a s : Nat) (hm : MarksAt w b 95 h0) (hfs : a + s ≤ 256) :
    Calls Try.prog 60 #[.pointer (some ⟨b, 0, none⟩), .int .i64 a, .int .i64 s] w fun e w' => Added w' b h0 a s e ∧ But b w w' := by
 have hlt := hm.lt
 go_enter Try.func60, Try.ntmps60
 go_wp2
 go_loopw [9] (fun i wr => ∃ k : Nat, k ≤ s ∧ i = .int .i64 k ∧ Hid (∀ p : Int, a ≤ p → p < a + k → h0 p = false) ∧ MarksAt wr b 95 (setH a k true h0) ∧ But b w wr) (fun i _ => s - (intOf i).toNat)
 case atStart => exact ⟨0, Nat.zero_le _, rfl, (fun p h1 h2 => by omega), (show w.heap[b]? = some (.cells (mk (setH (a : Int) (0 : Int) true h0)) _ _) by rw [mk_set0]; exact hm), But.refl _ _⟩
 case round =>
  obtain ⟨k, hk, rfl, hN, hM, hB⟩ := hrel
  by_cases hk1 : k < s
  ·have c1 := hM.cell (a + k) (by omega)
   have c2 := hM.fz (a + k)
   have hM' := hM.set (by omega)
   have hB' := hB.setCell (o := a + k) (.bool true)
   have e0 : setH a k true h0 ((a + k : Nat) : Int) = h0 ((a + k : Nat) : Int) := by unfold setH; rw [if_neg (by omega)]
   rw [e0] at c1
   cases hv : h0 ((a + k : Nat) : Int) with
   | true =>
    rw [hv] at c1
    have HF : Hid (∃ p : Int, a ≤ p ∧ p < a + s ∧ h0 p = true) := ⟨((a + k : Nat) : Int), by omega, by omega, hv⟩
    clear hM hM' hB' hN hm e0 hv
    go_wp2
    go_ret
    exact ⟨.inr ⟨rfl, HF.out⟩, hB⟩
   | false =>
    rw [hv] at c1
    have HN : Hid (∀ p : Int, a ≤ p → p < a + ((k + 1 : Nat) : Int) → h0 p = false) := fun p h1 h2 => by
     by_cases e : p = ((a + k : Nat) : Int)
     ·rw [e]; exact hv
     ·exact hN.out p h1 (by omega)
    clear hM hB hm hN e0 hv
    go_wp2
    go_roundw
    case rel => exact ⟨k + 1, by omega, by go_num, HN, hM', hB'⟩
    case measure => simp [intOf]; omega
  ·obtain rfl : k = s := by omega
   go_wp2
   go_ret
   exact ⟨.inl ⟨rfl, hN.out, hM⟩, hB⟩
def AddedL (w' : World) (b : Nat) (P l : List Bk) (e : Ending) : Prop :=
 (e = .returned (.bool true) ∧ Apt P l ∧ MarksAt w' b 95 (cov (P ++ l))) ∨ (e = .returned (.bool false) ∧ ¬ Apt P l)
theorem cov_set (P : List Bk) (c : Bk) (a s : Nat) (ha : (a : Int) = c.a) (hs : (s : Int) = pw c.o) (p : Int) : setH a s true (cov P) p = cov (P ++ [c]) p := by
 rw [cov_append, cov_one]
 unfold setH
 rw [ha, hs]
 by_cases h : c.a ≤ p ∧ p < c.a + pw c.o
 ·rw [if_pos h, decide_eq_true h]; simp
 ·rw [if_neg h, decide_eq_false h]; simp
theorem marks_cov {w : World} {b a s : Nat} {P : List Bk} {c : Bk} (ha : (a : Int) = c.a) (hs : (s : Int) = pw c.o) (h : MarksAt w b 95 (setH a s true (cov P))) : MarksAt w b 95 (cov (P ++ [c])) := by
 unfold MarksAt at h ⊢
 rw [h, mk_ext fun p _ => cov_set P c a s ha hs p]
theorem pAddBlocks_any (w : World) (b : Nat) (P l : List Bk) (ao : Option Addr) (n cap : Nat) (hm : MarksAt w b 95 (cov P)) (hl : Blks w ao n l) (hI : ∀ i, i < l.length → InP (l.getD i .zero)) (hne : 0 < n → ∀ a, ao = some a → a.block ≠ b) :
    Calls Try.prog 59 #[.pointer (some ⟨b, 0, none⟩), .slice ao n cap] w fun e w' => AddedL w' b P l e ∧ But b w w' := by
 have hn := hl.len
 have hr := hl.reach
 have hI' : Hid _ := hI
 clear hI
 go_enter Try.func59, Try.ntmps59
 go_wp2
 go_loopw [9] (fun i wr => ∃ k : Nat, k ≤ n ∧ i = .int .i64 k ∧ Hid (Apt P (l.take k)) ∧ MarksAt wr b 95 (cov (P ++ l.take k)) ∧ But b w wr) (fun i _ => n - (intOf i).toNat)
 case atStart => exact ⟨0, Nat.zero_le _, rfl, (by show Apt P _; simpa using apt_nil P), by simpa using hm, But.refl _ _⟩
 case round =>
  obtain ⟨k, hk, rfl, hA, hM, hB⟩ := hrel
  by_cases hlt : k < n
  ·obtain ⟨g, off, a, o, t, ha, c0, c1, c2, HX⟩ := (hB.blks hl (hne (by omega))).at_.at k (by omega)
   have hin := hI'.out k (by omega)
   rw [HX.out] at hin
   obtain ⟨h1, h2, h3⟩ := hin
   dsimp only at h1 h2 h3
   subst ha
   have hbb := below_box wr (.cells #[.int .i64 a, .int .i64 o, .int .i64 t] 72)
   have y0 : (wr.alloc (.cells #[.int .i64 a, .int .i64 o, .int .i64 t] 72)).cell? ⟨wr.heap.size, 0, none⟩ = some (.int .i64 a) := by go_simp
   have y1 : (wr.alloc (.cells #[.int .i64 a, .int .i64 o, .int .i64 t] 72)).cell? ⟨wr.heap.size, 1, none⟩ = some (.int .i64 o) := by go_simp
   obtain ⟨Wb, hWb⟩ : ∃ Wb, wr.alloc (.cells #[.int .i64 a, .int .i64 o, .int .i64 t] 72) = Wb := ⟨_, rfl⟩
   rw [hWb] at hbb y0 y1
   have HWb : Hid _ := hWb
   have hMb := hM.below hbb
   have hBb := hB.trans (But.of_below hbb)
   clear hWb
   have hp := pw_pos o
   have hp16 := pw_le h1
   have hw1 : IntKind.i64.wrap ((2 : Int) ^ o.toNat) = pw o := by rcases ord_cases h1 with ⟨rfl, e⟩ | ⟨rfl, e⟩ | ⟨rfl, e⟩ | ⟨rfl, e⟩ | ⟨rfl, e⟩ <;> (rw [e]; rfl)
   obtain ⟨S, hS⟩ : ∃ S : Nat, pw o = S := ⟨(pw o).toNat, by omega⟩
   obtain ⟨A, hA'⟩ : ∃ A : Nat, a = A := ⟨a.toNat, by omega⟩
   have HS : Hid (pw o = S) := hS
   rw [hS] at hp hp16 hw1 h3
   obtain ⟨o0, o4⟩ := id h1
   have HA' : Hid (a = A) := hA'
   rw [hA'] at y0 h3
   have hAdd := fun W (hm : MarksAt W b 95 (cov (P ++ l.take k))) => pAdd_any W b _ A S hm (by omega)
   have HAd : Hid _ := hAdd
   clear hS hAdd hA'
   go_wp2_with (rw [HWb.out])
   clear HWb c0 c1 c2
   have hSB : Below Wb.heap.size Wb { Wb with drawn := Wb.drawn + 1 } := (Below.refl Wb.heap.size Wb).drew
   have SB : But b Wb { Wb with drawn := Wb.drawn + 1 } := But.of_below hSB
   have hbn : wr.heap.size ≠ b := by have := hM.lt; omega
   have m0 : ∀ wx, But b Wb wx → wx.cell? ⟨wr.heap.size, 0, none⟩ = some (.int .i64 (A : Int)) := fun wx h => h.cell y0 hbn
   have m1 : ∀ wx, But b Wb wx → wx.cell? ⟨wr.heap.size, 1, none⟩ = some (.int .i64 o) := fun wx h => h.cell y1 hbn
   refine wp_region_peel (S := fun wx => But b Wb wx) 7 _ (by kernel_rfl) (by kernel_rfl) rfl ?_
   simp only [List.take_succ_cons, List.take_zero]
   refine takeH 0 (v := .pointer (some ⟨b, 0, none⟩)) rfl (by kernel_rfl) (by kernel_rfl) (by kernel_rfl) (fun _ _ _ h => h) rfl (fun wx hSx => ?_) SB ?_
   ·go_simp
   try simp only [Act.put, List.setIfInBounds_toArray, List.set_cons_zero, List.set_cons_succ]
   refine takeH 1 (v := .pointer (some ⟨wr.heap.size, 0, none⟩)) rfl (by kernel_rfl) (by kernel_rfl) (by kernel_rfl) (fun _ _ _ h => h) rfl (fun wx hSx => ?_) SB ?_
   ·go_simp
   try simp only [Act.put, List.setIfInBounds_toArray, List.set_cons_zero, List.set_cons_succ]
   refine takeH 2 (v := .int .i64 (A : Int)) rfl (by kernel_rfl) (by kernel_rfl) (by kernel_rfl) (fun _ _ _ h => h) rfl (fun wx hSx => ?_) SB ?_
   ·go_simp
   try simp only [Act.put, List.setIfInBounds_toArray, List.set_cons_zero, List.set_cons_succ]
   refine takeH 3 (v := .pointer (some ⟨wr.heap.size, 1, none⟩)) rfl (by kernel_rfl) (by kernel_rfl) (by kernel_rfl) (fun _ _ _ h => h) rfl (fun wx hSx => ?_) SB ?_
   ·go_simp
   try simp only [Act.put, List.setIfInBounds_toArray, List.set_cons_zero, List.set_cons_succ]
   refine takeH 4 (v := .int .i64 o) rfl (by kernel_rfl) (by kernel_rfl) (by kernel_rfl) (fun _ _ _ h => h) rfl (fun wx hSx => ?_) SB ?_
   ·go_simp
   try simp only [Act.put, List.setIfInBounds_toArray, List.set_cons_zero, List.set_cons_succ]
   refine takeH 5 (v := .int .i64 (S : Int)) rfl (by kernel_rfl) (by kernel_rfl) (by kernel_rfl) (fun _ _ _ h => h) rfl (fun wx hSx => ?_) SB ?_
   ·go_simp
   try simp only [Act.put, List.setIfInBounds_toArray, List.set_cons_zero, List.set_cons_succ]
   refine oneH 6 (by kernel_rfl) rfl rfl (fun K1 hK1 => ?_)
   go_simp
   refine (HAd.out _ (hMb.below hSB)).mono ?_
   rintro e wA ⟨hAd, hbA⟩
   have SA : But b Wb wA := (But.of_below hSB).trans hbA
   have hBA := hBb.trans SA
   rcases hAd with ⟨rfl, hfree, hM2⟩ | ⟨rfl, p, q1, q2, q3⟩
   ·have hno : ¬ ovlP (P ++ l.take k) (l.getD k .zero).a (l.getD k .zero).o := by
     rw [HX.out, ← cov_ovl]
     rintro ⟨p, q1, q2, q3⟩
     dsimp only at q1 q2
     rw [HS.out, HA'.out] at q2
     rw [HA'.out] at q1
     rw [hfree p q1 q2] at q3
     cases q3
    have hA2 : Hid (Apt P (l.take (k + 1))) := (apt_take_succ P l k (by omega)).2 ⟨hA.out, hno⟩
    have hM3 := marks_cov (c := ⟨a, o, t⟩) HA'.out.symm HS.out.symm hM2
    rw [List.append_assoc, ← take_getD l k (by omega) HX.out] at hM3
    refine hK1 _ _ SA ?_
    try simp only [Act.put, List.setIfInBounds_toArray, List.set_cons_zero, List.set_cons_succ]
    refine wpAnyH_done (by kernel_rfl) ?_ _
    show Oper.wp _ _ _ _ _ _
    clear hno hM2 hfree hMb hM hA hK1 m0 m1 SA hbA HAd hBb hB y0 y1 hw1
    go_wp2
    go_roundw
    case rel => exact ⟨k + 1, by omega, by go_num, hA2, hM3, hBA⟩
    case measure => simp [intOf]; omega
   ·have HF : Hid (¬ Apt P l) := fun hh => by
     have := ((apt_take_succ P l k (by omega)).1 (apt_take hh (k + 1))).2
     apply this
     rw [HX.out, ← cov_ovl]
     dsimp only
     rw [HS.out, HA'.out]
     exact ⟨p, q1, q2, q3⟩
    refine hK1 _ _ SA ?_
    try simp only [Act.put, List.setIfInBounds_toArray, List.set_cons_zero, List.set_cons_succ]
    refine wpAnyH_done (by kernel_rfl) ?_ _
    show Oper.wp _ _ _ _ _ _
    clear hMb hM hA hK1 m0 m1 SA hbA HAd hBb hB y0 y1 hw1 q3
    go_wp2
    go_ret
    exact ⟨.inr ⟨rfl, HF.out⟩, hBA⟩
  ·have e : l.take k = l := List.take_of_length_le (by omega)
   rw [e] at hA hM
   go_wp2
   go_ret
   exact ⟨.inl ⟨rfl, hA.out, hM⟩, hB⟩
theorem zero_pmarks (w : World) : (zeroValue 95).run Try.prog w = .ok (.agg (mk fun _ => false)) w := by kernel_rfl
def freeA (l : List Zc) : List Bk := l.flatMap fun z => z.z.free
def pageA (l : List Lc) : List Bk := l.flatMap fun x => x.l.pages.map pgB
theorem placed_eq (x : Hx) : placed x.hp = freeA x.zs ++ (pageA x.ls ++ x.live) := by
 unfold placed freeA pageA Hx.hp
 simp [List.flatMap_map]
theorem flatMap_take {α β : Type} (l : List α) (f : α → List β) (k : Nat) (h : k < l.length) (d : α) : (l.take (k + 1)).flatMap f = (l.take k).flatMap f ++ f (l.getD k d) := by
 rw [List.take_succ_eq_append_getElem h, List.flatMap_append, List.getD_eq_getElem?_getD, List.getElem?_eq_getElem h]
 simp
theorem flatMap_split {α β : Type} (l : List α) (f : α → List β) (k : Nat) : l.flatMap f = (l.take k).flatMap f ++ (l.drop k).flatMap f := by
 rw [← List.flatMap_append, List.take_append_drop]
theorem apt_mid {P l R : List Bk} (h : Apt [] (P ++ (l ++ R))) : Apt P l := by
 have := ((apt_append [] P (l ++ R)).1 h).2
 exact ((apt_append _ l R).1 this).1
theorem map_take_succ (l : List Int) (k : Nat) (h : k < l.length) : (l.take (k + 1)).map pgB = (l.take k).map pgB ++ [pgB (l.getD k 0)] := by
 rw [List.take_succ_eq_append_getElem h, List.map_append, List.getD_eq_getElem?_getD, List.getElem?_eq_getElem h]
 simp
theorem Blks.lt {w : World} {ao : Option Addr} {n : Nat} {l : List Bk} (h : Blks w ao n l) (hn : 0 < n) : ∀ a, ao = some a → a.block < w.heap.size := by
 intro a ha
 obtain ⟨b, off, e, c, _, _⟩ := h.at_ 0 (by have := h.len; omega)
 rw [ha] at e
 cases e
 have := World.block_lt_of_cell? w _ c
 exact this
structure ApI (w W0 : World) (x : Hx) (P : List Bk) (wr : World) : Prop where
 b : Below w.heap.size w wr
 but : But (w.heap.size + 1) W0 wr
 m : MarksAt wr (w.heap.size + 1) 95 (cov P)
 box : HBox wr w.heap.size (.slice x.zo x.zn x.zc) (.slice x.mo x.mn x.mc) (.int .i64 x.cpus) (.slice x.lo x.ln x.lc) (.slice x.vo x.vn x.vc)
theorem ApI.below {w W0 : World} {x : Hx} {P : List Bk} {wr wr' : World} (h : ApI w W0 x P wr) (hb : Below wr.heap.size wr wr') : ApI w W0 x P wr' :=
 ⟨h.b.trans (hb.mono h.b.size), h.but.trans (But.of_below hb), h.m.below hb, h.box.below hb⟩
theorem ApI.step {w W0 : World} {x : Hx} {P Q : List Bk} {wr wr' : World} (h : ApI w W0 x P wr) (hb : But (w.heap.size + 1) wr wr') (hm : MarksAt wr' (w.heap.size + 1) 95 (cov Q)) : ApI w W0 x Q wr' :=
 ⟨h.b.trans (hb.below (by omega) h.b.size), h.but.trans hb, hm, h.box.but hb (by omega)⟩
theorem pApart_any (w : World) (x : Hx) (hx : x.At w) (hz : ∀ z ∈ x.zs, ∀ i, i < z.z.free.length → InP (z.z.free.getD i .zero)) (hl : ∀ l ∈ x.ls, ∀ i, i < l.l.pages.length → 0 ≤ l.l.pages.getD i 0 ∧ l.l.pages.getD i 0 < 256) (hv : ∀ i, i < x.live.length → InP (x.live.getD i .zero)) :
    Calls Try.prog 31 #[.agg #[.slice x.zo x.zn x.zc, .slice x.mo x.mn x.mc, .int .i64 x.cpus, .slice x.lo x.ln x.lc, .slice x.vo x.vn x.vc]] w fun e w' => RetIff e (Apt [] (placed x.hp)) ∧ Below w.heap.size w w' := by
 have HPl := placed_eq x
 obtain ⟨PL, hPL⟩ : ∃ PL, placed x.hp = PL := ⟨_, rfl⟩
 rw [hPL] at HPl ⊢
 have HP : Hid (PL = freeA x.zs ++ (pageA x.ls ++ x.live)) := HPl
 clear HPl hPL
 have hz' : Hid _ := hz
 have hl' : Hid _ := hl
 have hv' : Hid _ := hv
 have hb1 := below_box w (.cells #[.slice x.zo x.zn x.zc, .slice x.mo x.mn x.mc, .int .i64 x.cpus, .slice x.lo x.ln x.lc, .slice x.vo x.vn x.vc] 27)
 have A1 := hbox_new w (.slice x.zo x.zn x.zc) (.slice x.mo x.mn x.mc) (.int .i64 x.cpus) (.slice x.lo x.ln x.lc) (.slice x.vo x.vn x.vc) 27
 have hs1 : (w.alloc (.cells #[.slice x.zo x.zn x.zc, .slice x.mo x.mn x.mc, .int .i64 x.cpus, .slice x.lo x.ln x.lc, .slice x.vo x.vn x.vc] 27)).heap.size = w.heap.size + 1 := by simp
 have hzm := zero_pmarks
 obtain ⟨Z, hZ⟩ : ∃ Z, mk (fun _ => false) = Z := ⟨_, rfl⟩
 rw [hZ] at hzm
 obtain ⟨W0, hW0⟩ : ∃ W0, (w.alloc (.cells #[.slice x.zo x.zn x.zc, .slice x.mo x.mn x.mc, .int .i64 x.cpus, .slice x.lo x.ln x.lc, .slice x.vo x.vn x.vc] 27)).alloc (.cells Z 95) = W0 := ⟨_, rfl⟩
 have hb2 : Below w.heap.size w W0 := by rw [← hW0]; exact hb1.trans ((below_box _ _).mono hb1.size)
 have I0 : ApI w W0 x [] W0 := by
  refine ⟨hb2, But.refl _ _, ?_, by rw [← hW0]; exact A1.below (below_box _ _)⟩
  show W0.heap[w.heap.size + 1]? = some (Obj.cells (mk (cov [])) _ _)
  have e : mk (cov []) = Z := by rw [← hZ]; exact mk_ext fun p _ => rfl
  rw [e, ← hW0]
  have := heap_alloc_new (w.alloc (.cells #[.slice x.zo x.zn x.zc, .slice x.mo x.mn x.mc, .int .i64 x.cpus, .slice x.lo x.ln x.lc, .slice x.vo x.vn x.vc] 27)) (.cells Z 95)
  rw [hs1] at this
  exact this
 have HW0 : Hid _ := hW0
 have a0 := A1.c0
 have i0 := I0.box.c0
 obtain ⟨zo, hzo⟩ : ∃ zo, x.zo = zo := ⟨_, rfl⟩
 obtain ⟨lo, hlo⟩ : ∃ lo, x.lo = lo := ⟨_, rfl⟩
 have hZs := hx.zones
 have hLs := hx.lists
 rw [hzo] at hZs i0
 rw [hlo] at hLs
 have HZO : Hid (x.zo = zo) := hzo
 have HLO : Hid (x.lo = lo) := hlo
 have rz := hZs.reach
 have rl := hLs.reach
 have HNo : Hid (∀ e, (e = Ending.returned (.bool false)) → ¬ Apt [] PL → RetIff e (Apt [] PL)) := fun e he hn => ⟨false, he, by simp [hn]⟩
 clear hz hl hv hb1 A1 hs1 hW0 a0
 rw [hzo, hlo]
 rw [hzo, hlo] at HW0
 clear hzo hlo
 go_enter Try.func31, Try.ntmps31
 go_wp2_with (rw [HW0.out])
 clear HW0 hzm hZ i0
 go_loopw [13] (fun iv wr => ∃ k : Nat, k ≤ x.zn ∧ iv = .int .i64 k ∧ Hid (Apt [] (freeA (x.zs.take k))) ∧ ApI w W0 x (freeA (x.zs.take k)) wr) (fun iv _ => x.zn - (intOf iv).toNat)
 case atStart => exact ⟨0, Nat.zero_le _, rfl, (by show Apt [] _; exact apt_nil []), I0⟩
 case round =>
  obtain ⟨k, hk, rfl, hA, I⟩ := hrel
  clear I0
  by_cases hlt : k < x.zn
  ·obtain ⟨g, off, z, fo, fn, fc, to_, tn, tc, ha, c0, c1, c2, c3, hat, hX⟩ := (hZs.below I.b).at k hlt
   subst ha
   have hbb := below_box wr (.cells #[.int .i64 z.f, .int .i64 z.t, .slice fo fn fc, .slice to_ tn tc] 70)
   have ZB := zbox_new wr (.int .i64 z.f) (.int .i64 z.t) (.slice fo fn fc) (.slice to_ tn tc) 70
   have hatw : Blks w fo fn z.free := by
    have := hZs.at_ _ (getD_mem (d := Zc.zero) (show k < x.zs.length by have := hZs.len; omega))
    rw [hX.out] at this
    exact ZnAt.free this
   have Ib := I.below hbb
   have HAd := pAddBlocks_any _ (w.heap.size + 1) (freeA (x.zs.take k)) z.free fo fn fc Ib.m (hatw.below Ib.b) (fun i hi => by
       have := hz'.out _ (getD_mem (d := Zc.zero) (show k < x.zs.length by have := hZs.len; omega)) i (by rw [hX.out]; exact hi)
       rw [hX.out] at this
       exact this) (fun hn a ha => by have := Blks.lt hatw hn a ha; omega)
   obtain ⟨Wb, hWb⟩ : ∃ Wb, wr.alloc (.cells #[.int .i64 z.f, .int .i64 z.t, .slice fo fn fc, .slice to_ tn tc] 70) = Wb := ⟨_, rfl⟩
   rw [hWb] at hbb ZB Ib HAd
   have HWb : Hid _ := hWb
   have y2 := ZB.c2
   clear hWb
   go_wp2_with (rw [HWb.out])
   go_at_call 59
   refine HAd.mono ?_
   rintro e W2 ⟨hAd, hb2'⟩
   have e1 : freeA (x.zs.take (k + 1)) = freeA (x.zs.take k) ++ z.free := by
    unfold freeA
    rw [flatMap_take x.zs _ k (by have := hZs.len; omega) .zero, hX.out]
   rcases hAd with ⟨rfl, hA2, hM2⟩ | ⟨rfl, hA2⟩
   ·have I2 := Ib.step hb2' hM2
    rw [← e1] at I2
    have HA2 : Hid (Apt [] (freeA (x.zs.take (k + 1)))) := by show Apt [] _; rw [e1, apt_append]; exact ⟨hA.out, hA2⟩
    clear HAd hA hA2 hM2 I Ib hbb ZB c0 c1 c2 c3 hat y2 HWb e1
    go_wp2
    go_roundw
    case rel => exact ⟨k + 1, by omega, by go_num, HA2, I2⟩
    case measure => simp [intOf]; omega
   ·have HF : Hid (¬ Apt [] PL) := fun h => by
     apply hA2
     rw [HP.out] at h
     have e2 : freeA x.zs = freeA (x.zs.take k) ++ (z.free ++ freeA (x.zs.drop (k + 1))) := by
      rw [← List.append_assoc, ← e1]
      exact flatMap_split _ _ _
     rw [e2, List.append_assoc, List.append_assoc] at h
     exact apt_mid h
    have hBB := Ib.b.trans (hb2'.below (by omega) Ib.b.size)
    clear HAd hA hA2 I Ib hbb ZB c0 c1 c2 c3 hat y2 HWb e1
    go_wp2
    go_ret
    exact ⟨HNo.out _ rfl HF.out, hBB⟩
  ·have e0 : x.zs.take k = x.zs := List.take_of_length_le (by have := hZs.len; omega)
   rw [e0] at hA I
   have a3 := I.box.c3
   rw [HLO.out] at a3
   go_wp2_with fail
   clear a3 hlt hk e0
   go_loopw [25] (fun iv wr => ∃ k : Nat, k ≤ x.ln ∧ iv = .int .i64 k ∧ Hid (Apt [] (freeA x.zs ++ pageA (x.ls.take k))) ∧ ApI w W0 x (freeA x.zs ++ pageA (x.ls.take k)) wr) (fun iv _ => x.ln - (intOf iv).toNat)
   case atStart => exact ⟨0, Nat.zero_le _, rfl, (by show Apt [] _; simpa [pageA] using hA.out), by simpa [pageA] using I⟩
   case round =>
    clear hA I
    obtain ⟨k, hk, rfl, hA, I⟩ := hrel
    by_cases hlt : k < x.ln
    ·obtain ⟨g, off, c, z, t, pages, po, pn, pc, ha, c0, c1, c2, c3, hat, hX⟩ := (hLs.below I.b).at k hlt
     subst ha
     have hbb := below_box wr (.cells #[.int .i64 c, .int .i64 z, .int .i64 t, .slice po pn pc] 77)
     have ZB := zbox_new wr (.int .i64 c) (.int .i64 z) (.int .i64 t) (.slice po pn pc) 77
     have hatw : Nums w po pn pages := by
      have := hLs.at_ _ (getD_mem (d := Lc.zero) (show k < x.ls.length by have := hLs.len; omega))
      rw [hX.out] at this
      exact this
     have hpg : Hid (∀ i, i < pages.length → 0 ≤ pages.getD i 0 ∧ pages.getD i 0 < 256) := fun i hi => by
      have := hl'.out _ (getD_mem (d := Lc.zero) (show k < x.ls.length by have := hLs.len; omega)) i (by rw [hX.out]; exact hi)
      rw [hX.out] at this
      exact this
     have e1 : pageA (x.ls.take (k + 1)) = pageA (x.ls.take k) ++ pages.map pgB := by
      unfold pageA
      rw [flatMap_take x.ls _ k (by have := hLs.len; omega) .zero, hX.out]
     have Ib := I.below hbb
     obtain ⟨Wb, hWb⟩ : ∃ Wb, wr.alloc (.cells #[.int .i64 c, .int .i64 z, .int .i64 t, .slice po pn pc] 77) = Wb := ⟨_, rfl⟩
     rw [hWb] at hbb ZB Ib
     have HWb : Hid _ := hWb
     have y3 := ZB.c3
     have rp := hatw.reach
     have HE1 : Hid _ := e1
     clear hWb e1
     go_wp2_with (rw [HWb.out])
     clear HWb c0 c1 c2 c3 y3 ZB hbb hat I
     go_loopw [32] (fun iv wr => ∃ j : Nat, j ≤ pn ∧ iv = .int .i64 j ∧ Hid (Apt [] (freeA x.zs ++ pageA (x.ls.take k) ++ (pages.take j).map pgB)) ∧ ApI w W0 x (freeA x.zs ++ pageA (x.ls.take k) ++ (pages.take j).map pgB) wr) (fun iv _ => pn - (intOf iv).toNat)
     case atStart => exact ⟨0, Nat.zero_le _, rfl, (by show Apt [] _; simpa using hA.out), by simpa using Ib⟩
     case round =>
      clear hA Ib
      obtain ⟨j, hj, rfl, hA, I⟩ := hrel
      by_cases hjl : j < pn
      ·obtain ⟨g2, off2, p, ha2, c0, hP⟩ := (hatw.below I.b).at_.at j (by have := hatw.len; omega)
       subst ha2
       have hpp := hpg.out j (by have := hatw.len; omega)
       rw [hP.out] at hpp
       obtain ⟨A, hAA⟩ : ∃ A : Nat, p = A := ⟨p.toNat, by omega⟩
       have HAd := pAdd_any wr (w.heap.size + 1) _ A 1 I.m (by omega)
       rw [hAA] at c0
       have HAA : Hid (p = A) := hAA
       clear hAA hpp
       go_wp2_with fail
       go_at_call 60
       refine HAd.mono ?_
       rintro e W2 ⟨hAd, hb2'⟩
       have e2 : (pages.take (j + 1)).map pgB = (pages.take j).map pgB ++ [pgB p] := by rw [map_take_succ pages j (by have := hatw.len; omega), hP.out]
       rcases hAd with ⟨rfl, hfree, hM2⟩ | ⟨rfl, q, q1, q2, q3⟩
       ·have hM3 := marks_cov (c := pgB p) HAA.out.symm (by show ((1 : Nat) : Int) = pw 0; rfl) hM2
        have I2 := I.step hb2' hM3
        rw [List.append_assoc, ← e2] at I2
        have HA2 : Hid (Apt [] (freeA x.zs ++ pageA (x.ls.take k) ++ (pages.take (j + 1)).map pgB)) := by
         show Apt [] _
         rw [e2, ← List.append_assoc, apt_append, apt_one]
         refine ⟨hA.out, ?_⟩
         rw [List.nil_append, ← cov_ovl]
         rintro ⟨q, q1, q2, q3⟩
         have e3 : pw (pgB p).o = 1 := rfl
         have e4 : (pgB p).a = p := rfl
         rw [e3, e4] at q2
         rw [e4] at q1
         rw [HAA.out] at q1 q2
         rw [hfree q q1 (by omega)] at q3
         cases q3
        clear HAd hA hfree hM2 hM3 I c0 e2
        go_wp2
        go_roundw
        case rel => exact ⟨j + 1, by omega, by go_num, HA2, I2⟩
        case measure => simp [intOf]; omega
       ·have HF : Hid (¬ Apt [] PL) := fun h => by
         have e5 : pages.map pgB = (pages.take j).map pgB ++ ([pgB p] ++ (pages.drop (j + 1)).map pgB) := by
          rw [← List.append_assoc, ← e2, ← List.map_append, List.take_append_drop]
         have e6 : pageA x.ls = pageA (x.ls.take k) ++ (pages.map pgB ++ pageA (x.ls.drop (k + 1))) := by
          rw [← List.append_assoc, ← HE1.out]
          exact flatMap_split _ _ _
         rw [HP.out, e6, e5] at h
         have e7 : freeA x.zs ++ (pageA (x.ls.take k) ++ ((pages.take j).map pgB ++ ([pgB p] ++ (pages.drop (j + 1)).map pgB) ++ pageA (x.ls.drop (k + 1))) ++ x.live) = (freeA x.zs ++ pageA (x.ls.take k) ++ (pages.take j).map pgB) ++ ([pgB p] ++ ((pages.drop (j + 1)).map pgB ++ pageA (x.ls.drop (k + 1)) ++ x.live)) := by simp [List.append_assoc]
         rw [e7] at h
         have h1 := apt_mid h
         rw [apt_one, ← cov_ovl] at h1
         apply h1
         have e3 : pw (pgB p).o = 1 := rfl
         have e4 : (pgB p).a = p := rfl
         rw [e3, e4, HAA.out]
         exact ⟨q, q1, by omega, q3⟩
        have hBB := I.b.trans (hb2'.below (by omega) I.b.size)
        clear HAd hA I c0 e2 q3
        go_wp2
        go_ret
        exact ⟨HNo.out _ rfl HF.out, hBB⟩
      ·have e0 : pages.take j = pages := List.take_of_length_le (by have := hatw.len; omega)
       rw [e0, List.append_assoc, ← HE1.out] at hA I
       clear e0
       go_wp2
       go_roundw
       case rel => exact ⟨k + 1, by omega, by go_num, hA, I⟩
       case measure => simp [intOf]; omega
    ·have e0 : x.ls.take k = x.ls := List.take_of_length_le (by have := hLs.len; omega)
     rw [e0] at hA I
     have a4 := I.box.c4
     have HAd := pAddBlocks_any _ (w.heap.size + 1) (freeA x.zs ++ pageA x.ls) x.live x.vo x.vn x.vc I.m (hx.live.below I.b) hv'.out (fun hn a ha => by have := Blks.lt hx.live hn a ha; omega)
     go_wp2_with fail
     go_at_call 59
     refine HAd.mono ?_
     rintro e W2 ⟨hAd, hb2'⟩
     have hBB := I.b.trans (hb2'.below (by omega) I.b.size)
     have HI : Hid (Apt [] PL ↔ Apt (freeA x.zs ++ pageA x.ls) x.live) := by
      show _ ↔ _
      rw [HP.out, ← List.append_assoc, apt_append]
      simp only [List.nil_append]
      exact ⟨fun h => h.2, fun h => ⟨hA.out, h⟩⟩
     rcases hAd with ⟨rfl, hA2, hM2⟩ | ⟨rfl, hA2⟩
     ·have HY := HI.out.2 hA2
      have HY' : Hid _ := HY
      clear HAd hA hA2 hM2 I a4 HY HI e0
      go_wp2
      go_ret
      exact ⟨⟨true, rfl, fun _ => HY'.out, fun _ => rfl⟩, hBB⟩
     ·have HF : Hid (¬ Apt [] PL) := fun h => hA2 (HI.out.1 h)
      clear HAd hA hA2 I a4 HI e0
      go_wp2
      go_ret
      exact ⟨HNo.out _ rfl HF.out, hBB⟩
def ownC (a b : Ls) : Int := orL [cmpI a.c b.c, cmpI a.z b.z, cmpI a.t b.t]
theorem cmpI_cases (a b : Int) : (a < b ∧ cmpI a b = -1) ∨ (b < a ∧ cmpI a b = 1) ∨ (a = b ∧ cmpI a b = 0) := by
 rcases (show a < b ∨ b < a ∨ a = b by omega) with h | h | h
 ·exact .inl ⟨h, by unfold cmpI; rw [if_pos h]⟩
 ·exact .inr (.inl ⟨h, by unfold cmpI; rw [if_neg (by omega), if_pos h]⟩)
 ·exact .inr (.inr ⟨h, by unfold cmpI; rw [if_neg (by omega), if_neg (by omega)]⟩)
theorem ownC_neg (a b : Ls) : ownC a b < 0 ↔ aheadL a b := by
 unfold ownC aheadL orL orL orL orL
 rcases cmpI_cases a.c b.c with ⟨h, e⟩ | ⟨h, e⟩ | ⟨h, e⟩ <;> rcases cmpI_cases a.z b.z with ⟨h1, e1⟩ | ⟨h1, e1⟩ | ⟨h1, e1⟩ <;> rcases cmpI_cases a.t b.t with ⟨h2, e2⟩ | ⟨h2, e2⟩ | ⟨h2, e2⟩ <;> rw [e, e1, e2] <;> simp <;> omega
theorem ownC_zero (a b : Ls) : ownC a b = 0 ↔ a.c = b.c ∧ a.z = b.z ∧ a.t = b.t := by
 unfold ownC orL orL orL orL
 rcases cmpI_cases a.c b.c with ⟨h, e⟩ | ⟨h, e⟩ | ⟨h, e⟩ <;> rcases cmpI_cases a.z b.z with ⟨h1, e1⟩ | ⟨h1, e1⟩ | ⟨h1, e1⟩ <;> rcases cmpI_cases a.t b.t with ⟨h2, e2⟩ | ⟨h2, e2⟩ | ⟨h2, e2⟩ <;> rw [e, e1, e2] <;> simp <;> omega
theorem ownC_range (a b : Ls) : -1 ≤ ownC a b ∧ ownC a b ≤ 1 := by
 unfold ownC orL orL orL orL
 rcases cmpI_cases a.c b.c with ⟨h, e⟩ | ⟨h, e⟩ | ⟨h, e⟩ <;> rcases cmpI_cases a.z b.z with ⟨h1, e1⟩ | ⟨h1, e1⟩ | ⟨h1, e1⟩ <;> rcases cmpI_cases a.t b.t with ⟨h2, e2⟩ | ⟨h2, e2⟩ | ⟨h2, e2⟩ <;> rw [e, e1, e2] <;> simp
theorem pByOwner_any (w : World) (a b : Ls) (po po' : Value) :
    Calls Try.prog 56 #[.agg #[.int .i64 a.c, .int .i64 a.z, .int .i64 a.t, po], .agg #[.int .i64 b.c, .int .i64 b.z, .int .i64 b.t, po']] w fun e w' => e = .returned (.int .i64 (ownC a b)) ∧ Below w.heap.size w w' := by
 have hb1 := below_box w (.cells #[.int .i64 a.c, .int .i64 a.z, .int .i64 a.t, po] 77)
 have A1 := zbox_new w (.int .i64 a.c) (.int .i64 a.z) (.int .i64 a.t) po 77
 have hb2 := below_box (w.alloc (.cells #[.int .i64 a.c, .int .i64 a.z, .int .i64 a.t, po] 77)) (.cells #[.int .i64 b.c, .int .i64 b.z, .int .i64 b.t, po'] 77)
 have A2 := zbox_new (w.alloc (.cells #[.int .i64 a.c, .int .i64 a.z, .int .i64 a.t, po] 77)) (.int .i64 b.c) (.int .i64 b.z) (.int .i64 b.t) po' 77
 replace A1 := A1.below hb2
 have hb0 := hb1.trans (hb2.mono hb1.size)
 have hs0 : (w.alloc (.cells #[.int .i64 a.c, .int .i64 a.z, .int .i64 a.t, po] 77)).heap.size = w.heap.size + 1 := by simp
 rw [hs0] at A2
 clear hb1 hb2 hs0
 obtain ⟨W0, hW0⟩ : ∃ W0, (w.alloc (.cells #[.int .i64 a.c, .int .i64 a.z, .int .i64 a.t, po] 77)).alloc (.cells #[.int .i64 b.c, .int .i64 b.z, .int .i64 b.t, po'] 77) = W0 := ⟨_, rfl⟩
 rw [hW0] at A1 A2 hb0
 have HW0 : Hid _ := hW0
 clear hW0
 obtain ⟨x0, h0⟩ : ∃ x, cmpI a.c b.c = x := ⟨_, rfl⟩
 obtain ⟨x1, h1⟩ : ∃ x, cmpI a.z b.z = x := ⟨_, rfl⟩
 obtain ⟨x2, h2⟩ : ∃ x, cmpI a.t b.t = x := ⟨_, rfl⟩
 have HO : Hid (ownC a b = orL [x0, x1, x2]) := by show _ = _; unfold ownC; rw [h0, h1, h2]
 have C0 := fun W => cmpCompare_any W a.c b.c
 have C1 := fun W => cmpCompare_any W a.z b.z
 have C2 := fun W => cmpCompare_any W a.t b.t
 rw [h0] at C0
 rw [h1] at C1
 rw [h2] at C2
 clear h0 h1 h2
 have S1 : Below W0.heap.size W0 { W0 with drawn := W0.drawn + 1 } := (Below.refl W0.heap.size W0).drew
 have m0 : ∀ wx, Below W0.heap.size W0 wx → wx.cell? ⟨w.heap.size, 0, none⟩ = some (.int .i64 a.c) := fun wx h => keep A1.c0 h
 have m1 : ∀ wx, Below W0.heap.size W0 wx → wx.cell? ⟨w.heap.size, 1, none⟩ = some (.int .i64 a.z) := fun wx h => keep A1.c1 h
 have m2 : ∀ wx, Below W0.heap.size W0 wx → wx.cell? ⟨w.heap.size, 2, none⟩ = some (.int .i64 a.t) := fun wx h => keep A1.c2 h
 have n0 : ∀ wx, Below W0.heap.size W0 wx → wx.cell? ⟨w.heap.size + 1, 0, none⟩ = some (.int .i64 b.c) := fun wx h => keep A2.c0 h
 have n1 : ∀ wx, Below W0.heap.size W0 wx → wx.cell? ⟨w.heap.size + 1, 1, none⟩ = some (.int .i64 b.z) := fun wx h => keep A2.c1 h
 have n2 : ∀ wx, Below W0.heap.size W0 wx → wx.cell? ⟨w.heap.size + 1, 2, none⟩ = some (.int .i64 b.t) := fun wx h => keep A2.c2 h
 go_enter Try.func56, Try.ntmps56
 go_wp2_with (rw [HW0.out])
 clear HW0
 refine wp_region_peel (S := fun wx => Below W0.heap.size W0 wx) 17 _ (by kernel_rfl) (by kernel_rfl) rfl ?_
 simp only [List.take_succ_cons, List.take_zero]
 refine takeH 0 (v := .pointer (some ⟨w.heap.size, 0, none⟩)) rfl (by kernel_rfl) (by kernel_rfl) (by kernel_rfl) (fun _ _ _ h => h) rfl (fun wx hSx => ?_) S1 ?_
 ·go_simp
 try simp only [Act.put, List.setIfInBounds_toArray, List.set_cons_zero, List.set_cons_succ]
 refine takeH 1 (v := .int .i64 a.c) rfl (by kernel_rfl) (by kernel_rfl) (by kernel_rfl) (fun _ _ _ h => h) rfl (fun wx hSx => ?_) S1 ?_
 ·go_simp
 try simp only [Act.put, List.setIfInBounds_toArray, List.set_cons_zero, List.set_cons_succ]
 refine takeH 2 (v := .pointer (some ⟨w.heap.size + 1, 0, none⟩)) rfl (by kernel_rfl) (by kernel_rfl) (by kernel_rfl) (fun _ _ _ h => h) rfl (fun wx hSx => ?_) S1 ?_
 ·go_simp
 try simp only [Act.put, List.setIfInBounds_toArray, List.set_cons_zero, List.set_cons_succ]
 refine takeH 3 (v := .int .i64 b.c) rfl (by kernel_rfl) (by kernel_rfl) (by kernel_rfl) (fun _ _ _ h => h) rfl (fun wx hSx => ?_) S1 ?_
 ·go_simp
 try simp only [Act.put, List.setIfInBounds_toArray, List.set_cons_zero, List.set_cons_succ]
 refine takeH 5 (v := .pointer (some ⟨w.heap.size, 1, none⟩)) rfl (by kernel_rfl) (by kernel_rfl) (by kernel_rfl) (fun _ _ _ h => h) rfl (fun wx hSx => ?_) S1 ?_
 ·go_simp
 try simp only [Act.put, List.setIfInBounds_toArray, List.set_cons_zero, List.set_cons_succ]
 refine takeH 6 (v := .int .i64 a.z) rfl (by kernel_rfl) (by kernel_rfl) (by kernel_rfl) (fun _ _ _ h => h) rfl (fun wx hSx => ?_) S1 ?_
 ·go_simp
 try simp only [Act.put, List.setIfInBounds_toArray, List.set_cons_zero, List.set_cons_succ]
 refine takeH 7 (v := .pointer (some ⟨w.heap.size + 1, 1, none⟩)) rfl (by kernel_rfl) (by kernel_rfl) (by kernel_rfl) (fun _ _ _ h => h) rfl (fun wx hSx => ?_) S1 ?_
 ·go_simp
 try simp only [Act.put, List.setIfInBounds_toArray, List.set_cons_zero, List.set_cons_succ]
 refine takeH 8 (v := .int .i64 b.z) rfl (by kernel_rfl) (by kernel_rfl) (by kernel_rfl) (fun _ _ _ h => h) rfl (fun wx hSx => ?_) S1 ?_
 ·go_simp
 try simp only [Act.put, List.setIfInBounds_toArray, List.set_cons_zero, List.set_cons_succ]
 refine takeH 10 (v := .pointer (some ⟨w.heap.size, 2, none⟩)) rfl (by kernel_rfl) (by kernel_rfl) (by kernel_rfl) (fun _ _ _ h => h) rfl (fun wx hSx => ?_) S1 ?_
 ·go_simp
 try simp only [Act.put, List.setIfInBounds_toArray, List.set_cons_zero, List.set_cons_succ]
 refine takeH 11 (v := .int .i64 a.t) rfl (by kernel_rfl) (by kernel_rfl) (by kernel_rfl) (fun _ _ _ h => h) rfl (fun wx hSx => ?_) S1 ?_
 ·go_simp
 try simp only [Act.put, List.setIfInBounds_toArray, List.set_cons_zero, List.set_cons_succ]
 refine takeH 12 (v := .pointer (some ⟨w.heap.size + 1, 2, none⟩)) rfl (by kernel_rfl) (by kernel_rfl) (by kernel_rfl) (fun _ _ _ h => h) rfl (fun wx hSx => ?_) S1 ?_
 ·go_simp
 try simp only [Act.put, List.setIfInBounds_toArray, List.set_cons_zero, List.set_cons_succ]
 refine takeH 13 (v := .int .i64 b.t) rfl (by kernel_rfl) (by kernel_rfl) (by kernel_rfl) (fun _ _ _ h => h) rfl (fun wx hSx => ?_) S1 ?_
 ·go_simp
 try simp only [Act.put, List.setIfInBounds_toArray, List.set_cons_zero, List.set_cons_succ]
 refine oneH 4 (by kernel_rfl) rfl rfl (fun K4 hK4 => ?_)
 go_simp
 refine (C0 _).mono ?_
 rintro e wq ⟨rfl, rfl⟩
 refine hK4 _ _ S1 ?_
 try simp only [Act.put, List.setIfInBounds_toArray, List.set_cons_zero, List.set_cons_succ]
 refine oneH 9 (by kernel_rfl) rfl rfl (fun K9 hK9 => ?_)
 go_simp
 refine (C1 _).mono ?_
 rintro e wq ⟨rfl, rfl⟩
 refine hK9 _ _ S1 ?_
 try simp only [Act.put, List.setIfInBounds_toArray, List.set_cons_zero, List.set_cons_succ]
 refine oneH 14 (by kernel_rfl) rfl rfl (fun K14 hK14 => ?_)
 go_simp
 refine (C2 _).mono ?_
 rintro e wq ⟨rfl, rfl⟩
 refine hK14 _ _ S1 ?_
 try simp only [Act.put, List.setIfInBounds_toArray, List.set_cons_zero, List.set_cons_succ]
 refine oneH 15 (by kernel_rfl) rfl rfl (fun K5 hK5 => ?_)
 go_simp
 have SA : Below W0.heap.size W0 (W0.alloc (.cells #[.int .i64 x0, .int .i64 x1, .int .i64 x2] 3)).drew := ((Below.refl _ _).alloc (Nat.le_refl _) _).drew
 have hN : Nums (W0.alloc (.cells #[.int .i64 x0, .int .i64 x1, .int .i64 x2] 3)).drew (some ⟨W0.heap.size, 0, none⟩) 3 [x0, x1, x2] := by
  refine ⟨rfl, by omega, fun i hi => ⟨W0.heap.size, 0, rfl, ?_⟩⟩
  have hc := cell_three_new W0 (.int .i64 x0) (.int .i64 x1) (.int .i64 x2) 3
  have hi' : i < 3 := by simpa using hi
  have h2 : (W0.alloc (.cells #[.int .i64 x0, .int .i64 x1, .int .i64 x2] 3)).drew.cell? ⟨W0.heap.size, i, none⟩ = (W0.alloc (.cells #[.int .i64 x0, .int .i64 x1, .int .i64 x2] 3)).cell? ⟨W0.heap.size, i, none⟩ := rfl
  rw [Nat.zero_add, h2]
  rcases (show i = 0 ∨ i = 1 ∨ i = 2 by omega) with rfl | rfl | rfl
  ·exact hc 0 _ rfl
  ·exact hc 1 _ rfl
  ·exact hc 2 _ rfl
 refine hK5 _ _ SA ?_
 try simp only [Act.put, List.setIfInBounds_toArray, List.set_cons_zero, List.set_cons_succ]
 have HC := cmpOr_any _ (some ⟨W0.heap.size, 0, none⟩) 3 3 [x0, x1, x2] hN
 obtain ⟨V, hV⟩ : ∃ V, (W0.alloc (.cells #[.int .i64 x0, .int .i64 x1, .int .i64 x2] 3)).drew = V := ⟨_, rfl⟩
 rw [hV] at SA HC ⊢
 obtain ⟨R, hR⟩ : ∃ R, orL [x0, x1, x2] = R := ⟨_, rfl⟩
 rw [hR] at HC
 have HR : Hid _ := hR
 clear hV hN hR
 refine oneH 16 (by kernel_rfl) rfl rfl (fun K6 hK6 => ?_)
 go_simp
 refine HC.mono ?_
 rintro e wq ⟨rfl, rfl⟩
 refine hK6 _ _ SA ?_
 try simp only [Act.put, List.setIfInBounds_toArray, List.set_cons_zero, List.set_cons_succ]
 refine wpAnyH_done (by kernel_rfl) ?_ _
 show Oper.wp _ _ _ _ _ _
 have hB := hb0.trans (SA.mono hb0.size)
 clear hK4 hK9 hK14 hK5 hK6 m0 m1 m2 n0 n1 n2 A1 A2 C0 C1 C2 HC S1
 go_wp2
 go_ret
 exact ⟨by rw [HO.out, HR.out]; rfl, hB⟩
theorem listMayF_call (args : Array Value) (W : World) : (callFunc 76 args).run Try.prog W = .ok (.enter 76 args) W := by kernel_rfl
theorem listMayF_any (w : World) (hb lb : Nat) (zo : Option Addr) (zn zc : Nat) (zs : List Zc) (k : Nat) (p : Int) (hz : Zons w zo zn zs) (hk : k < zn) (h0 : w.cell? ⟨hb, 0, none⟩ = some (.slice zo zn zc)) (h1 : w.cell? ⟨lb, 1, none⟩ = some (.int .i64 (k : Int))) :
    Calls Try.prog 76 #[.int .i64 p, .pointer (some ⟨hb, 0, none⟩), .pointer (some ⟨lb, 0, none⟩)] w fun e w' => e = .returned (.bool (!inB p (zs.getD k .zero).z.f ((zs.getD k .zero).z.t - 1))) ∧ Below w.heap.size w w' := by
 obtain ⟨g, off, z, fo, fn, fc, to_, tn, tc, rfl, c0, c1, c2, c3, _, hX⟩ := hz.at k hk
 rw [hX.out]
 have HP := pIsPage_any w z.f z.t p (.slice fo fn fc) (.slice to_ tn tc)
 have hr := hz.reach
 dsimp only
 obtain ⟨r, hrr⟩ : ∃ r, inB p z.f (z.t - 1) = r := ⟨_, rfl⟩
 rw [hrr] at HP ⊢
 clear hrr hX hz
 go_enter Try.func76, Try.ntmps76
 go_wp2_with fail
 go_at_call 77
 refine HP.mono ?_
 rintro e w1 ⟨rfl, hb1⟩
 clear HP c0 c1 c2 c3 h0 h1
 go_wp2
 go_ret
 exact ⟨rfl, hb1⟩
structure LsOkX (x : Hx) (l : Ls) : Prop where
 c : 0 ≤ l.c ∧ l.c ≤ x.cpus - 1
 z : 0 ≤ l.z ∧ l.z < x.zn
 t : 0 ≤ l.t ∧ l.t ≤ 2
 n : 1 ≤ l.pages.length ∧ l.pages.length ≤ 8
 p : ∀ i, i < l.pages.length → (x.zs.getD l.z.toNat .zero).z.f ≤ l.pages.getD i 0 ∧ l.pages.getD i 0 < (x.zs.getD l.z.toNat .zero).z.t
theorem pListMay_any (w : World) (x : Hx) (l : Ls) (po : Option Addr) (pn pc : Nat) (hx : x.At w) (hp : Nums w po pn l.pages) :
    Calls Try.prog 55 #[.agg #[.slice x.zo x.zn x.zc, .slice x.mo x.mn x.mc, .int .i64 x.cpus, .slice x.lo x.ln x.lc, .slice x.vo x.vn x.vc], .agg #[.int .i64 l.c, .int .i64 l.z, .int .i64 l.t, .slice po pn pc]] w fun e w' => RetIff e (LsOkX x l) ∧ Below w.heap.size w w' := by
 have hb1 := below_box w (.cells #[.slice x.zo x.zn x.zc, .slice x.mo x.mn x.mc, .int .i64 x.cpus, .slice x.lo x.ln x.lc, .slice x.vo x.vn x.vc] 27)
 have A1 := hbox_new w (.slice x.zo x.zn x.zc) (.slice x.mo x.mn x.mc) (.int .i64 x.cpus) (.slice x.lo x.ln x.lc) (.slice x.vo x.vn x.vc) 27
 have hb2 := below_box (w.alloc (.cells #[.slice x.zo x.zn x.zc, .slice x.mo x.mn x.mc, .int .i64 x.cpus, .slice x.lo x.ln x.lc, .slice x.vo x.vn x.vc] 27)) (.cells #[.int .i64 l.c, .int .i64 l.z, .int .i64 l.t, .slice po pn pc] 77)
 have A2 := zbox_new (w.alloc (.cells #[.slice x.zo x.zn x.zc, .slice x.mo x.mn x.mc, .int .i64 x.cpus, .slice x.lo x.ln x.lc, .slice x.vo x.vn x.vc] 27)) (.int .i64 l.c) (.int .i64 l.z) (.int .i64 l.t) (.slice po pn pc) 77
 replace A1 := A1.below hb2
 have hb0 := hb1.trans (hb2.mono hb1.size)
 have hs0 : (w.alloc (.cells #[.slice x.zo x.zn x.zc, .slice x.mo x.mn x.mc, .int .i64 x.cpus, .slice x.lo x.ln x.lc, .slice x.vo x.vn x.vc] 27)).heap.size = w.heap.size + 1 := by simp
 rw [hs0] at A2
 clear hb1 hb2 hs0
 obtain ⟨W0, hW0⟩ : ∃ W0, (w.alloc (.cells #[.slice x.zo x.zn x.zc, .slice x.mo x.mn x.mc, .int .i64 x.cpus, .slice x.lo x.ln x.lc, .slice x.vo x.vn x.vc] 27)).alloc (.cells #[.int .i64 l.c, .int .i64 l.z, .int .i64 l.t, .slice po pn pc] 77) = W0 := ⟨_, rfl⟩
 rw [hW0] at A1 A2 hb0
 have HW0 : Hid _ := hW0
 clear hW0
 have hz := hx.zones.below hb0
 replace hp := hp.below hb0
 have hlen := hp.len
 have rz := hz.reach
 have rp := hp.reach
 have HC := pIsCpu_any W0 (.slice x.zo x.zn x.zc) (.slice x.mo x.mn x.mc) (.slice x.lo x.ln x.lc) (.slice x.vo x.vn x.vc) x.cpus l.c
 have HT := fun W => pIsType_any W l.t
 have a0 := A1.c0
 have a1 := A1.c1
 have a2 := A1.c2
 have a3 := A1.c3
 have a4 := A1.c4
 have b0 := A2.c0
 go_enter Try.func55, Try.ntmps55
 go_wp2_with (rw [HW0.out])
 go_at_call 74
 refine HC.mono ?_
 rintro e W1 ⟨rfl, hb1⟩
 clear HC HW0 a0 a1 a2 a3 a4 b0
 replace A1 := A1.below hb1
 replace A2 := A2.below hb1
 replace hz := hz.below hb1
 replace hp := hp.below hb1
 have hB1 := hb0.trans (hb1.mono hb0.size)
 have a0 := A1.c0
 have b0 := A2.c0
 have b1 := A2.c1
 have b2 := A2.c2
 have b3 := A2.c3
 have HN : ∀ e, (e = Ending.returned (.bool false)) → ¬ LsOkX x l → RetIff e (LsOkX x l) := fun e he hn => ⟨false, he, by simp [hn]⟩
 have HN' : Hid _ := HN
 clear HN
 by_cases h1 : 0 ≤ l.c ∧ l.c ≤ x.cpus - 1
 ·rw [inB_t h1]
  by_cases h2 : 0 ≤ l.z
  ·by_cases h3 : l.z < x.zn
   ·go_wp2_with fail
    go_at_call 58
    refine (HT _).mono ?_
    rintro e W2 ⟨rfl, rfl⟩
    by_cases h4 : 0 ≤ l.t ∧ l.t ≤ 2
    ·rw [inB_t h4]
     by_cases h5 : (pn : Int) < 1
     ·have hn : Hid (¬ LsOkX x l) := fun h => by have := h.n; omega
      go_wp2
      go_ret
      exact ⟨HN'.out _ rfl hn.out, hB1⟩
     ·by_cases h6 : (8 : Int) < pn
      ·have hn : Hid (¬ LsOkX x l) := fun h => by have := h.n; omega
       go_wp2
       go_ret
       exact ⟨HN'.out _ rfl hn.out, hB1⟩
      ·obtain ⟨k, hk⟩ : ∃ k : Nat, l.z = k := ⟨l.z.toNat, by omega⟩
       have hkn : k < x.zn := by omega
       have b1' := b1
       rw [hk] at b1'
       have HI := iContains_any W1 76 #[.pointer (some ⟨w.heap.size, 0, none⟩), .pointer (some ⟨w.heap.size + 1, 0, none⟩)] po pn pc l.pages (fun p => !inB p (x.zs.getD k .zero).z.f ((x.zs.getD k .zero).z.t - 1)) hp listMayF_call (fun i hi W hW => listMayF_any W w.heap.size (w.heap.size + 1) x.zo x.zn x.zc x.zs k _ (hz.below hW) hkn (keep a0 hW) (keep b1' hW))
       have HK : Hid (l.z = k) := hk
       clear hk b1'
       go_wp2_with fail
       go_at_call 75
       refine HI.mono ?_
       rintro e W2 ⟨rfl, hb2⟩
       have hB2 := hB1.trans (hb2.mono hB1.size)
       have hfin : Hid (((!(l.pages.any fun p => !inB p (x.zs.getD k .zero).z.f ((x.zs.getD k .zero).z.t - 1))) = true) ↔ LsOkX x l) := by
        show _ ↔ _
        rw [Bool.not_eq_true', List.any_eq_false]
        constructor
        ·intro h
         refine ⟨h1, by rw [HK.out]; omega, h4, by omega, fun i hi => ?_⟩
         have := h (l.pages.getD i 0) (getD_mem hi)
         simp only [Bool.not_eq_true, Bool.not_eq_false'] at this
         have := of_decide_eq_true this
         rw [HK.out]
         simp only [Int.toNat_natCast]
         omega
        ·intro h p hp
         obtain ⟨i, hi, rfl⟩ := List.getElem_of_mem hp
         have := h.p i hi
         have e : l.pages.getD i 0 = l.pages[i] := by rw [List.getD_eq_getElem?_getD, List.getElem?_eq_getElem hi]; rfl
         rw [HK.out, e] at this
         simp only [Int.toNat_natCast] at this
         rw [inB_t (by omega)]
         simp
       generalize (l.pages.any fun p => !inB p (x.zs.getD k .zero).z.f ((x.zs.getD k .zero).z.t - 1)) = r at hfin ⊢
       clear HI b0 b1 b2 b3 a0
       go_wp2
       go_ret
       exact ⟨⟨_, rfl, hfin.out⟩, hB2⟩
    ·rw [inB_f h4]
     have hn : Hid (¬ LsOkX x l) := fun h => h4 h.t
     go_wp2
     go_ret
     exact ⟨HN'.out _ rfl hn.out, hB1⟩
   ·have hn : Hid (¬ LsOkX x l) := fun h => h3 h.z.2
    go_wp2
    go_ret
    exact ⟨HN'.out _ rfl hn.out, hB1⟩
  ·have hn : Hid (¬ LsOkX x l) := fun h => h2 h.z.1
   go_wp2
   go_ret
   exact ⟨HN'.out _ rfl hn.out, hB1⟩
 ·rw [inB_f h1]
  have hn : Hid (¬ LsOkX x l) := fun h => h1 h.c
  go_wp2
  go_ret
  exact ⟨HN'.out _ rfl hn.out, hB1⟩
end Go.Proofs.Ytnijjpakpphhhaa
