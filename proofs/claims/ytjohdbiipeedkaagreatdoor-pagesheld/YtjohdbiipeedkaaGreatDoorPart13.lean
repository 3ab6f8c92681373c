/-
  OWN TEXTS.
-/
import Derived.Test.YtjohdbiipeedkaaGreatDoorPart12
set_option maxRecDepth 10000
set_option maxHeartbeats 4000000
namespace Go.Proofs.YtjohdbiipeedkaaGreatDoor
open Go Go.RowKit Go.Proofs.YtjohdbiipeedkaaGreatDoor.Kit
theorem bregions_any (w : World) (b : Nat) (h : Int → Bool) (hm : MarksAt w b 94 h) :
    Calls Tryz.prog 52 #[.pointer (some ⟨b, 0, none⟩)] w fun e w' => ∃ bo c, e = .returned (.slice bo (drawnAll h).length c) ∧
     w'.ownsRow w.heap.size 47 2 (.slice bo (drawnAll h).length c) (drawnAll h).length (rvals (drawnAll h)) ∧ Below w.heap.size w w' := by
 obtain ⟨i0, hi, hz0, hz1, hz2⟩ := info_parts info_region
 obtain ⟨N, hN1, hN2⟩ : ∃ N : Nat, N ≤ 256 ∧ 256 ≤ N := ⟨256, Nat.le_refl _, Nat.le_refl _⟩
 go_enter Tryz.func52, Tryz.ntmps52
 go_wp2
 go_loopw [3, 7] (fun v i wr => ∃ (k n c : Nat) (bo : Option Addr), k ≤ N ∧ i = .int .i64 k ∧ v = .slice bo n c ∧ Hid ((drawnK h k).length = n) ∧ wr.ownsRow w.heap.size 47 2 (.slice bo n c) n (rvals (drawnK h k)) ∧ Below w.heap.size w wr) (fun _ i _ => N - (intOf i).toNat)
 case atStart => exact ⟨0, 0, 0, none, by omega, rfl, rfl, rfl, World.ownsRow_nil _ _ _ _, Below.refl _ _⟩
 case round =>
  obtain ⟨k, n, c, bo, hk, rfl, rfl, hL, hown, hb⟩ := hrel
  have hs := hb.size
  by_cases hlt : k < N
  ·have hmr := hm.below hb
   have c1 := hmr.cell k (by omega)
   by_cases h1 : h k = true
   ·rw [h1] at c1
    go_wp2
    go_quiet (fail)
    have hown1 := owns_below hown (below_drawn (w := wr) nq) (Nat.le_refl _)
    have hb1 := below_drewN hb nq
    have hm1 := hm.below hb1
    obtain ⟨W1, hW1⟩ : ∃ W1, wr.drewN nq = W1 := ⟨_, rfl⟩
    rw [hW1] at hown1 hb1 hm1 ⊢
    clear hW1 hown hb hmr c1 hs hm
    by_cases h0 : k = 0
    ·subst h0
     have h0' : Hid (¬ (0 < 0 ∧ h (((0 : Nat) : Int) - 1) = true)) := fun g => by omega
     clear hm1
     have hml : n + 1 ≤ maxLen := by have := drawn_len h 0; have := hL.out; unfold maxLen; omega
     have hsz : (n + 1) * 16 ≤ 140737488355328 := by have := drawn_len h 0; have := hL.out; omega
     have hlen := hL.out
     have HE0 : Hid (rvals (drawnK h 0) ++ [Value.int .i64 0, Value.int .i64 0] = rvals (drawnK h 0 ++ [(((0 : Nat) : Int), 0)])) := by
      show _ = _
      rw [rvals_append]; rfl
     have HE : Hid ((rvals (drawnK h 0 ++ [(((0 : Nat) : Int), 0)])).set (n * 2 + 1) (.int .i64 1) = rvals (drawnK h (0 + 1))) := by
      show _ = rvals (if h ((0 : Nat) : Int) then (if 0 < 0 ∧ h (((0 : Nat) : Int) - 1) then bump (drawnK h 0) else drawnK h 0 ++ [(((0 : Nat) : Int), 1)]) else drawnK h 0)
      rw [if_pos h1, if_neg h0'.out, rvals_set_snd _ _ _ (by simp; omega), ← hlen]
      simp [List.getD_eq_getElem?_getD]
     have HL' : Hid ((drawnK h (0 + 1)).length = n + 1) := by
      show (if h ((0 : Nat) : Int) then (if 0 < 0 ∧ h (((0 : Nat) : Int) - 1) then bump (drawnK h 0) else drawnK h 0 ++ [(((0 : Nat) : Int), 1)]) else drawnK h 0).length = n + 1
      rw [if_pos h1, if_neg h0'.out]; simp [hlen]
     have hget : (drawnK h 0 ++ [(((0 : Nat) : Int), 0)]).getD n (0, 0) = (((0 : Nat) : Int), 0) := by rw [← hlen]; simp [List.getD_eq_getElem?_getD]
     have hl2 : n < (drawnK h 0 ++ [(((0 : Nat) : Int), 0)]).length := by simp; omega
     have hn256 : n ≤ 256 := by have := drawn_len h 0; omega
     obtain ⟨L1, hL1⟩ : ∃ L1, drawnK h 0 ++ [(((0 : Nat) : Int), 0)] = L1 := ⟨_, rfl⟩
     rw [hL1] at HE0 HE hget hl2
     clear hL hlen hL1 h0' h1
     go_wp2_with (at_builtin; refine wpList_append_own _ rfl (.tmp 26) (.tmp 29) 23 rfl w.heap.size 47 i0 (.agg #[.int .i64 0, .int .i64 0]) 2 16 Tryz.underlying23 hi hz0 hz1 hz2 rfl (by decide) _ _ _ rfl (hown1.alloc _) ⟨W1.heap.size, 0, none⟩ 1 1 [.int .i64 0, .int .i64 0] rfl rfl ?c1 ?c2 hml hsz ?c5 ?_)
     case c1 => exact cell_two_new _ _ _ _
     case c2 => exact ints_oneCell .i64 [_, _]
     case c5 => have := hb1.size; simp; omega
     intro v' w3 hown' hgrow _
     rw [HE0.out] at hown'
     have hb' : Below w.heap.size w w3 := (hb1.alloc hb1.size _).grown hgrow (by have := hb1.size; simp; omega) (fun g hg => (hown1.lt g hg).1)
     obtain ⟨bo', c', rfl⟩ := owns_shape hown'
     obtain ⟨g, rfl, hg1, hg2⟩ := owns_head hown' (by omega)
     have hcell : w3.cell? ⟨g, n * 2 + 1, none⟩ = some (.int .i64 0) := by rw [hown'.cellAt (n * 2 + 1) (by omega), rvals_snd _ _ hl2, hget]
     have hfz : w3.frozen? ⟨g, n * 2 + 1, none⟩ = false := hown'.frozenAt _
     have hO := (hown'.stored (n * 2 + 1) (.int .i64 1)).1
     rw [HE.out] at hO
     have hb'' := hb'.setCell (p := ⟨g, n * 2 + 1, none⟩) hg1 (.int .i64 1)
     clear hown1 hgrow hb1 hown' hb' hget hl2
     go_wp2
     go_roundw
     case rel => exact ⟨0 + 1, n + 1, c', _, by omega, by go_num, rfl, HL', hO, hb''⟩
     case measure => simp [intOf]; omega
    obtain ⟨j, rfl⟩ : ∃ j, k = j + 1 := ⟨k - 1, by omega⟩
    have c2 := hm1.cell j (by omega)
    have hj1 : (((j + 1 : Nat) : Int) - 1) = (j : Int) := by omega
    have t0 : ((j : Int) + 1 == 0) = false := by simp; omega
    by_cases h2 : h (j : Int) = true
    ·rw [h2] at c2
     obtain ⟨l, f, s, el, hfs⟩ := (drawn_inv h (j + 1)).run (by omega) (by rw [hj1]; exact h2)
     have hcan := (drawn_inv h (j + 1)).canon
     rw [el, canon_snoc] at hcan
     obtain ⟨g0, g1, g2, g3⟩ := hcan
     have g4 := canon_end g0
     clear g0
     dsimp only at g1 g2 g3
     have hlen := hL.out
     obtain ⟨m, rfl⟩ : ∃ m, n = m + 1 := ⟨l.length, by rw [← hlen, el]; simp⟩
     have hm' : m = l.length := by rw [el] at hlen; simp at hlen; omega
     have hget : (drawnK h (j + 1)).getD m (0, 0) = (f, s) := by rw [el, hm']; simp [List.getD_eq_getElem?_getD]
     obtain ⟨g, rfl, hg1, hg2⟩ := owns_head hown1 (by omega)
     have hcell : W1.cell? ⟨g, m * 2 + 1, none⟩ = some (.int .i64 s) := by rw [hown1.cellAt (m * 2 + 1) (by omega), rvals_snd _ _ (by omega), hget]
     have hfz : W1.frozen? ⟨g, m * 2 + 1, none⟩ = false := hown1.frozenAt _
     have hO := (hown1.stored (m * 2 + 1) (.int .i64 (s + 1))).1
     have hmb : m ≤ 256 := by have := drawn_len h (j + 1); omega
     have hdef : drawnK h (j + 1 + 1) = bump (drawnK h (j + 1)) := by
      show (if h ((j + 1 : Nat) : Int) then (if 0 < j + 1 ∧ h (((j + 1 : Nat) : Int) - 1) then bump (drawnK h (j + 1)) else drawnK h (j + 1) ++ [(((j + 1 : Nat) : Int), 1)]) else drawnK h (j + 1)) = _
      rw [if_pos h1, if_pos ⟨by omega, by rw [hj1]; exact h2⟩]
     have HE : Hid ((rvals (drawnK h (j + 1))).set (m * 2 + 1) (.int .i64 (s + 1)) = rvals (drawnK h (j + 1 + 1))) := by
      show _ = _
      rw [hdef, rvals_set_snd _ _ _ (by omega), hget]
      unfold bump
      rw [hlen, Nat.add_sub_cancel, hget]
     have HL' : Hid ((drawnK h (j + 1 + 1)).length = m + 1) := by
      show _ = _
      rw [hdef]; unfold bump; rw [List.length_set]; exact hlen
     rw [HE.out] at hO
     have hb' := hb1.setCell (p := ⟨g, m * 2 + 1, none⟩) hg1 (.int .i64 (s + 1))
     have hs1 : s ≤ 256 := by omega
     clear hL hown1 hb1 el hget hlen hfs g1 g3 g4 hm' hdef h1 h2 hm1 hj1
     go_wp2
     go_roundw
     case rel => exact ⟨j + 1 + 1, m + 1, c, _, by omega, by go_num, rfl, HL', hO, hb'⟩
     case measure => simp [intOf]; omega
    have h2' : h (j : Int) = false := by simpa using h2
    rw [h2'] at c2
    have h0' : Hid (¬ (0 < j + 1 ∧ h (((j + 1 : Nat) : Int) - 1) = true)) := fun g => h2 (by rw [hj1] at g; exact g.2)
    clear h2 h2' hj1 hm1 h0
    have hml : n + 1 ≤ maxLen := by have := drawn_len h (j + 1); have := hL.out; unfold maxLen; omega
    have hsz : (n + 1) * 16 ≤ 140737488355328 := by have := drawn_len h (j + 1); have := hL.out; omega
    have hlen := hL.out
    have HE0 : Hid (rvals (drawnK h (j + 1)) ++ [Value.int .i64 ((j : Int) + 1), Value.int .i64 0] = rvals (drawnK h (j + 1) ++ [((((j + 1) : Nat) : Int), 0)])) := by
     show _ = _
     rw [rvals_append]; rfl
    have HE : Hid ((rvals (drawnK h (j + 1) ++ [((((j + 1) : Nat) : Int), 0)])).set (n * 2 + 1) (.int .i64 1) = rvals (drawnK h ((j + 1) + 1))) := by
     show _ = rvals (if h (((j + 1) : Nat) : Int) then (if 0 < (j + 1) ∧ h ((((j + 1) : Nat) : Int) - 1) then bump (drawnK h (j + 1)) else drawnK h (j + 1) ++ [((((j + 1) : Nat) : Int), 1)]) else drawnK h (j + 1))
     rw [if_pos h1, if_neg h0'.out, rvals_set_snd _ _ _ (by simp; omega), ← hlen]
     simp [List.getD_eq_getElem?_getD]
    have HL' : Hid ((drawnK h ((j + 1) + 1)).length = n + 1) := by
     show (if h (((j + 1) : Nat) : Int) then (if 0 < (j + 1) ∧ h ((((j + 1) : Nat) : Int) - 1) then bump (drawnK h (j + 1)) else drawnK h (j + 1) ++ [((((j + 1) : Nat) : Int), 1)]) else drawnK h (j + 1)).length = n + 1
     rw [if_pos h1, if_neg h0'.out]; simp [hlen]
    have hget : (drawnK h (j + 1) ++ [((((j + 1) : Nat) : Int), 0)]).getD n (0, 0) = ((((j + 1) : Nat) : Int), 0) := by rw [← hlen]; simp [List.getD_eq_getElem?_getD]
    have hl2 : n < (drawnK h (j + 1) ++ [((((j + 1) : Nat) : Int), 0)]).length := by simp; omega
    have hn256 : n ≤ 256 := by have := drawn_len h (j + 1); omega
    obtain ⟨L1, hL1⟩ : ∃ L1, drawnK h (j + 1) ++ [((((j + 1) : Nat) : Int), 0)] = L1 := ⟨_, rfl⟩
    rw [hL1] at HE0 HE hget hl2
    clear hL hlen hL1 h0' h1
    go_wp2_with (at_builtin; refine wpList_append_own _ rfl (.tmp 26) (.tmp 29) 23 rfl w.heap.size 47 i0 (.agg #[.int .i64 0, .int .i64 0]) 2 16 Tryz.underlying23 hi hz0 hz1 hz2 rfl (by decide) _ _ _ rfl (hown1.alloc _) ⟨W1.heap.size, 0, none⟩ 1 1 [.int .i64 ((j : Int) + 1), .int .i64 0] rfl rfl ?c1 ?c2 hml hsz ?c5 ?_)
    case c1 => exact cell_two_new _ _ _ _
    case c2 => exact ints_oneCell .i64 [_, _]
    case c5 => have := hb1.size; simp; omega
    intro v' w3 hown' hgrow _
    rw [HE0.out] at hown'
    have hb' : Below w.heap.size w w3 := (hb1.alloc hb1.size _).grown hgrow (by have := hb1.size; simp; omega) (fun g hg => (hown1.lt g hg).1)
    obtain ⟨bo', c', rfl⟩ := owns_shape hown'
    obtain ⟨g, rfl, hg1, hg2⟩ := owns_head hown' (by omega)
    have hcell : w3.cell? ⟨g, n * 2 + 1, none⟩ = some (.int .i64 0) := by rw [hown'.cellAt (n * 2 + 1) (by omega), rvals_snd _ _ hl2, hget]
    have hfz : w3.frozen? ⟨g, n * 2 + 1, none⟩ = false := hown'.frozenAt _
    have hO := (hown'.stored (n * 2 + 1) (.int .i64 1)).1
    rw [HE.out] at hO
    have hb'' := hb'.setCell (p := ⟨g, n * 2 + 1, none⟩) hg1 (.int .i64 1)
    clear hown1 hgrow hb1 hown' hb' hget hl2
    go_wp2
    go_roundw
    case rel => exact ⟨(j + 1) + 1, n + 1, c', _, by omega, by go_num, rfl, HL', hO, hb''⟩
    case measure => simp [intOf]; omega
   have h1' : h k = false := by simpa using h1
   rw [h1'] at c1
   have HE : Hid (drawnK h k = drawnK h (k + 1)) := by
    show _ = (if h k then (if 0 < k ∧ h (k - 1) then bump (drawnK h k) else drawnK h k ++ [((k : Int), 1)]) else drawnK h k)
    rw [if_neg h1]
   rw [HE.out] at hown hL
   clear h1 h1' hm hmr
   go_wp2
   go_quiet (fail)
   go_wp2
   go_roundw
   case rel => exact ⟨k + 1, n, c, bo, by omega, by go_num, rfl, hL, owns_below hown (below_drawn _) (Nat.le_refl _), below_drewN hb _⟩
   case measure => simp [intOf]; omega
  have hk2 : k = 256 := by omega
  rw [drawn_all h k hk2] at hL hown
  have hL' := hL.out
  subst hL'
  clear hk2 hL
  go_wp2
  go_ret
  exact ⟨bo, c, rfl, hown, hb⟩
theorem cRanges_ok (w : World) (mo : Option Addr) (mn mc : Nat) (M : List (Int × Int)) (ro : Option Addr) (rn rc : Nat) (R : List (Int × Int)) (hm : Regs w mo mn M) (hr : Regs w ro rn R) (h : MayP M ∧ MayP R) :
    Calls Tryz.prog 28 #[.agg #[.slice mo mn mc, .slice ro rn rc]] w fun e w' => ∃ bo n c, e = .returned (.tuple #[.slice bo n c, .int .i64 0]) ∧ Regs w' bo n (drawnAll (freeH M R)) ∧ Below w.heap.size w w' := by
 have hb0 := below_box w (.cells #[.slice mo mn mc, .slice ro rn rc] 25)
 have p0 : (w.alloc (.cells #[.slice mo mn mc, .slice ro rn rc] 25)).cell? ⟨w.heap.size, 0, none⟩ = some (.slice mo mn mc) := by go_simp
 have p1 : (w.alloc (.cells #[.slice mo mn mc, .slice ro rn rc] 25)).cell? ⟨w.heap.size, 1, none⟩ = some (.slice ro rn rc) := by go_simp
 obtain ⟨D, hD⟩ : ∃ D, drawnAll (freeH M R) = D := ⟨_, rfl⟩
 have hlen : D.length ≤ 256 := by rw [← hD, ← drawn_all _ 256 rfl]; exact drawn_len _ 256
 rw [hD]
 have HD : Hid (drawnAll (freeH M R) = D) := hD
 clear hD
 go_enter Tryz.func28, Tryz.ntmps28
 go_wp2_with fail
 go_at_call 50
 refine (cCheck_ok _ mo mn mc M ro rn rc R (hm.below hb0) (hr.below hb0) h).mono ?_
 rintro e w1 ⟨rfl, hb1⟩
 replace p0 := keep p0 hb1
 replace p1 := keep p1 hb1
 have hB1 := hb0.trans (hb1.mono hb0.size)
 have HC := bfree_any w1 mo mn mc M ro rn rc R (hm.below hB1) (hr.below hB1) h.1 h.2
 clear hb0 hb1 hm hr
 go_wp2_with fail
 go_at_call 51
 refine HC.mono ?_
 rintro e w2 ⟨rfl, hb2⟩
 have hB2 := hB1.trans (hb2.mono hB1.size)
 clear HC hB1 hb2 p0 p1
 have hz := zero_marks
 obtain ⟨Z, hZ⟩ : ∃ Z, mk (fun _ => false) = Z := ⟨_, rfl⟩
 rw [hZ] at hz
 have hzs : Z.size = (mk fun p => inL M p && !inL R p).size := by rw [← hZ, mk_size, mk_size]
 have hst : (storeCells ⟨w2.heap.size, 0, none⟩ (mk fun p => inL M p && !inL R p).toList 0).run Tryz.prog (w2.alloc (.cells Z 94)) = .ok () ((w2.alloc (.cells Z 94)).setRow w2.heap.size (mk fun p => inL M p && !inL R p)) := store_row (heap_alloc_new _ _) hzs (mk_oneCell _)
 have hrow : MarksAt ((w2.alloc (.cells Z 94)).setRow w2.heap.size (mk fun p => inL M p && !inL R p)) w2.heap.size 94 (freeH M R) := setRow_heap _ _ _ _ _ _ (heap_alloc_new _ _)
 have hbs : Below w2.heap.size w2 ((w2.alloc (.cells Z 94)).setRow w2.heap.size (mk fun p => inL M p && !inL R p)) := below_setRow (below_box _ _) (Nat.le_refl _) _
 have HX := bregions_any _ _ _ hrow
 rw [HD.out] at HX
 obtain ⟨C, hC⟩ : ∃ C, (mk fun p => inL M p && !inL R p) = C := ⟨_, rfl⟩
 rw [hC] at hst HX hbs ⊢
 obtain ⟨N, hN⟩ : ∃ N, N = 256 := ⟨_, rfl⟩
 have zT : ∀ w, (sizeOf 94).run Tryz.prog w = .ok N w := by subst hN; exact fun _ => by kernel_rfl
 have aT : ∀ w, (isAgg 94).run Tryz.prog w = .ok true w := fun _ => by kernel_rfl
 have hcN : C.size = N := by rw [← hC, mk_size, hN]
 have hB3 := hB2.trans (hbs.mono hB2.size)
 obtain ⟨W3, hW3⟩ : ∃ W3, (w2.alloc (.cells Z 94)).setRow w2.heap.size C = W3 := ⟨_, rfl⟩
 rw [hW3] at hst HX hB3
 clear hN hrow hzs hC hB2 hbs
 go_wp2_with fail
 go_at_call 52
 refine HX.mono ?_
 rintro e w4 ⟨bo, c, rfl, own, hb4⟩
 clear HX
 go_wp2
 go_ret2
 exact ⟨bo, _, c, rfl, ⟨rfl, by omega, regs_of_owns own⟩, hB3.trans (hb4.mono hB3.size)⟩
end Go.Proofs.YtjohdbiipeedkaaGreatDoor
namespace Go.Proofs.YtjohdbiipeedkaaGreatDoor.Kit
open Go Go.RowKit Go.ChangeShapes Go.WideShapes Go.ChangeAt Go.Joins Go.Deep
structure Raw4 where
 k : Int
 a : Int
 b : Int
 c : Int
def Raw4.zero : Raw4 := ⟨0, 0, 0, 0⟩
structure Raw4.Fits (r : Raw4) : Prop where
 k : (Lit.int .i64 r.k).wf = true
 a : (Lit.int .i64 r.a).wf = true
 b : (Lit.int .i64 r.b).wf = true
 c : (Lit.int .i64 r.c).wf = true
def RawsAt (w : World) (ao : Option Addr) (l : List Raw4) : Prop :=
 ∀ i, i < l.length → ∃ b off, ao = some ⟨b, off, none⟩ ∧ w.cell? ⟨b, off + i * 4, none⟩ = some (.int .i64 (l.getD i .zero).k) ∧ w.cell? ⟨b, off + i * 4 + 1, none⟩ = some (.int .i64 (l.getD i .zero).a) ∧
  w.cell? ⟨b, off + i * 4 + 2, none⟩ = some (.int .i64 (l.getD i .zero).b) ∧ w.cell? ⟨b, off + i * 4 + 3, none⟩ = some (.int .i64 (l.getD i .zero).c)
theorem RawsAt.below {w w' : World} {ao : Option Addr} {l : List Raw4} (h : RawsAt w ao l) (hb : Below w.heap.size w w') : RawsAt w' ao l := by
 intro i hi
 obtain ⟨b, off, ha, h1, h2, h3, h4⟩ := h i hi
 exact ⟨b, off, ha, keep h1 hb, keep h2 hb, keep h3 hb, keep h4 hb⟩
theorem RawsAt.nil (w : World) (ao : Option Addr) : RawsAt w ao [] := fun i hi => absurd hi (by simp)
structure IsRaws (w : World) (ao : Option Addr) (n cap : Nat) (l : List Raw4) : Prop where
 len : l.length = n
 le : n ≤ cap
 reach : cap * 32 ≤ 140737488351232
 at_ : RawsAt w ao l
 wf : ∀ i, i < n → (l.getD i .zero).Fits
theorem open_raws_arg {H : Type} {enc : TypeId × Value → H} {P : Program} {W : World} {base : Nat} {t e : TypeId} {f0 f1 f2 f3 : Field} {v : Value} {d : DataW H} {p : List MemPlace}
    (ht : P.underlying t = some (.slice e)) (he : P.underlying e = some (.struct #[f0, f1, f2, f3])) (ce : P.cellsOf e = 4) (be : P.bytesOf e = 32)
    (hone : oneCellFields P #[f0, f1, f2, f3] = true) (u0 : P.underlying f0.type = some (.int .i64)) (u1 : P.underlying f1.type = some (.int .i64)) (u2 : P.underlying f2.type = some (.int .i64)) (u3 : P.underlying f3.type = some (.int .i64))
    (hv : Value.okWide P W .any base t v) (h : DataW.Trod enc P W 0 (fun _ => true) true t v d p) (hs : Sized P t d) :
    ∃ ao n cap l, v = .slice ao n cap ∧ IsRaws W ao n cap l := by
 obtain ⟨ao, n, cap, rfl⟩ := okWide_slice ht hv
 obtain ⟨fuel, hf⟩ := h
 rcases open_slice ht hf with ⟨hcs, _⟩ | ⟨a, len, cap', m, fu, D, Pl, hcs, _, hl, hm, hmm, hx, hc⟩
 ·simp [Value.cells] at hcs
  obtain ⟨rfl, rfl, rfl⟩ := hcs
  exact ⟨none, 0, 0, [], rfl, ⟨rfl, by omega, by omega, RawsAt.nil _ _, fun i hi => by omega⟩⟩
 simp [Value.cells] at hcs
 obtain ⟨rfl, rfl, rfl⟩ := hcs
 simp only [if_true] at hmm
 subst hmm
 simp only [Prod.mk.injEq] at hx
 have hr := hx.1 ▸ hs
 have hr2 := sized_sl hr ht
 rw [be] at hr2
 simp only [List.length_map, List.length_range, reachBytes] at hr2
 rw [ce] at hc
 obtain ⟨o0, k0⟩ := hone_of hone 0 f0 rfl
 obtain ⟨o1, k1⟩ := hone_of hone 1 f1 rfl
 obtain ⟨o2, k2⟩ := hone_of hone 2 f2 rfl
 obtain ⟨o3, k3⟩ := hone_of hone 3 f3 rfl
 have each : ∀ i, i < m → ∃ r : Raw4, r.Fits ∧ W.cell? (a.add (i * 4)) = some (.int .i64 r.k) ∧ W.cell? (a.add (i * 4 + 1)) = some (.int .i64 r.a) ∧ W.cell? (a.add (i * 4 + 2)) = some (.int .i64 r.b) ∧ W.cell? (a.add (i * 4 + 3)) = some (.int .i64 r.c) := by
  intro i hi
  obtain ⟨cs', h1, h2⟩ := hc i hi
  obtain ⟨_, hlen, hcell⟩ := World.cells?_some h1
  obtain ⟨y0, y1, y2, y3, q, _, _, g0, g1, g2, g3⟩ := trod_struct4 he h2
  match cs', hlen with
  | [v0, v1, v2, v3], _ =>
   simp [o0, k0] at g0
   simp [o1, k1] at g1
   simp [o2, k2] at g2
   simp [o3, k3] at g3
   obtain ⟨x0, e0, _, w0⟩ := DataW.trod_int u0 g0
   obtain ⟨x1, e1, _, w1⟩ := DataW.trod_int u1 g1
   obtain ⟨x2, e2, _, w2⟩ := DataW.trod_int u2 g2
   obtain ⟨x3, e3, _, w3⟩ := DataW.trod_int u3 g3
   simp only [List.cons.injEq, and_true] at e0 e1 e2 e3
   subst e0 e1 e2 e3
   have c0 := hcell 0 (by omega)
   have c1 := hcell 1 (by omega)
   have c2 := hcell 2 (by omega)
   have c3 := hcell 3 (by omega)
   rw [add_add] at c0 c1 c2 c3
   exact ⟨⟨x0, x1, x2, x3⟩, ⟨w0, w1, w2, w3⟩, by simpa using c0, by simpa using c1, by simpa using c2, by simpa using c3⟩
 have inh : Inhabited Raw4 := ⟨Raw4.zero⟩
 obtain ⟨g, hg⟩ := choose_lt each
 have hget : ∀ i, i < n → ((List.range n).map g).getD i .zero = g i := by
  intro i hi
  simp [List.getD_eq_getElem?_getD, hi]
 refine ⟨some a, n, m, (List.range n).map g, rfl, ⟨by simp, hl, by omega, ?_, fun i hi => by rw [hget i hi]; exact (hg i (by omega)).1⟩⟩
 intro i hi
 have hi' : i < n := by simpa using hi
 obtain ⟨_, d0, d1, d2, d3⟩ := hg i (by omega)
 obtain ⟨b, off, spot⟩ := a
 have hspot : spot = none := by
  have := World.cell?_spot (hg 0 (by omega)).2.1
  simpa [Addr.add] using this
 subst hspot
 have hadd : ∀ j, (⟨b, off, none⟩ : Addr).add j = ⟨b, off + j, none⟩ := fun j => by unfold Addr.add; split <;> simp_all
 rw [hadd] at d0 d1 d2 d3
 rw [hget i hi']
 exact ⟨b, off, rfl, d0, by rw [Nat.add_assoc]; exact d1, by rw [Nat.add_assoc]; exact d2, by rw [Nat.add_assoc]; exact d3⟩
open Go Go.RowKit
section
variable {P : Program} {l : List Oper} {Q : Exit → Act → World → Prop} {S : World → Prop} {n N : Nat} {listed : Array Bool} {A : Act} {L : List (Nat × Value)} {o o' o'' : Oper} {w : World}
theorem a_three (k j i3 : Nat) (hk : l[k]? = some o) (hj : l[j]? = some o') (hi3 : l[i3]? = some o'') (hr : Region.ready .any l.toArray listed = [k, j, i3]) (hg : o.guard = none) (hg' : o'.guard = none) (hg'' : o''.guard = none)
    (h : o.wp P A w (fun a' w' => S w' ∧ wpAnyH P .any l.toArray Q S n (listed.setIfInBounds k true) a' w') Q)
    (h' : o'.wp P A w (fun a' w' => S w' ∧ wpAnyH P .any l.toArray Q S n (listed.setIfInBounds j true) a' w') Q)
    (h'' : o''.wp P A w (fun a' w' => S w' ∧ wpAnyH P .any l.toArray Q S n (listed.setIfInBounds i3 true) a' w') Q) : wpAnyH P .any l.toArray Q S (n + 1) listed A w := by
 refine wpAnyH_all hr (by simp) ?_
 intro i hi
 unfold wpOp
 rcases (show i = k ∨ i = j ∨ i = i3 by simpa using hi) with rfl | rfl | rfl
 ·rw [show l.toArray[i]? = some o by simpa using hk]
  simp only [Region.wanted, hg, if_true]
  exact .inl h
 ·rw [show l.toArray[i]? = some o' by simpa using hj]
  simp only [Region.wanted, hg', if_true]
  exact .inl h'
 ·rw [show l.toArray[i]? = some o'' by simpa using hi3]
  simp only [Region.wanted, hg'', if_true]
  exact .inl h''
theorem g_opR {K : Act → World → Prop} {R : Value → World → Prop} (hr : ∃ v W, (execOp A.eval o).run P w = .ok (.value v) W ∧ R v W) (h : ∀ v W, R v W → K (A.put o.dst v) W) : o.wp P A w K Q := by
 obtain ⟨v, W, hrun, hR⟩ := hr
 unfold Oper.wp
 rw [hrun, Oper.upon_value]
 exact h v W hR
end
end Go.Proofs.YtjohdbiipeedkaaGreatDoor.Kit
namespace Go.Proofs.YtjohdbiipeedkaaGreatDoor
open Go Go.RowKit Go.Proofs.YtjohdbiipeedkaaGreatDoor.Kit
def Off (b : Nat) (y : Hx) : Prop := Away b y ∧ ∀ a, y.zo = some a → a.block ≠ b
theorem off_old {w : World} {b : Nat} {y : Hx} (h : y.At w) (hz : y.hp.zones.length = 2) (hb : w.heap.size ≤ b) : Off b y :=
 ⟨away_old h hb, (awayL_old h hb).z (by have e : y.hp.zones.length = y.zs.length := (by show (y.zs.map _).length = _; rw [List.length_map]); omega)⟩
theorem Off.but {w w' : World} {b : Nat} {y : Hx} (h : Off b y) (hy : y.At w) (hw : But b w w') : y.At w' := at_butA hy hw h.1 h.2
def prB (b : Bk) : Int × Int := (b.a, b.o)
structure PgI (B : Nat) (H0 : Hp) (W : World) (y : Hx) (aw : List Bk) (vo : Option Addr) (vn vc : Nat) : Prop where
 at_ : y.At W
 may : HMay y.hp
 cpus : y.hp.cpus = H0.cpus
 ft : SameFT y.hp H0
 occ : ∀ q, occ y.hp q = occ H0 q
 own : W.ownsRow B 40 3 (.slice vo vn vc) vn (bvals aw)
 perm : (aw.map prB).Perm (y.hp.live.map prB)
 off : ∀ a, vo = some a → Off a.block y
theorem PgI.below {B : Nat} {H0 : Hp} {W W' : World} {y : Hx} {aw : List Bk} {vo : Option Addr} {vn vc : Nat} (h : PgI B H0 W y aw vo vn vc) (hb : Below W.heap.size W W') : PgI B H0 W' y aw vo vn vc :=
 ⟨h.at_.below hb, h.may, h.cpus, h.ft, h.occ, owns_below h.own hb (Nat.le_refl _), h.perm, h.off⟩
theorem PgI.but {B b : Nat} {H0 : Hp} {W W' : World} {y : Hx} {aw : List Bk} {vo : Option Addr} {vn vc : Nat} (h : PgI B H0 W y aw vo vn vc) (hb : But b W W') (ho : Off b y) (hv : ∀ a, vo = some a → a.block ≠ b) : PgI B H0 W' y aw vo vn vc :=
 ⟨ho.but h.at_ hb, h.may, h.cpus, h.ft, h.occ, owns_butN h.own hb hv, h.perm, h.off⟩
theorem PgI.len {B : Nat} {H0 : Hp} {W : World} {y : Hx} {aw : List Bk} {vo : Option Addr} {vn vc : Nat} (h : PgI B H0 W y aw vo vn vc) : aw.length = vn ∧ vn = y.live.length ∧ vn ≤ 256 := by
 have h1 := bowns_len h.own
 have h2 := h.perm.length_eq
 rw [List.length_map, List.length_map] at h2
 have h3 := live_few h.may.lv
 have h4 : y.hp.live.length = y.live.length := rfl
 omega
theorem PgI.blks {B : Nat} {H0 : Hp} {W : World} {y : Hx} {aw : List Bk} {vo : Option Addr} {vn vc : Nat} (h : PgI B H0 W y aw vo vn vc) : Blks W vo vn aw := blks_own h.own (by have := h.len; omega)
theorem addB_perm (l : List Bk) (b : Bk) : (addB l b).Perm (b :: l) := by
 induction l with
 | nil => exact .refl _
 | cons x l ih =>
  unfold addB
  split
  ·exact .refl _
  exact (ih.cons x).trans (List.Perm.swap b x l)
theorem erase_perm {α : Type} {l : List α} {i : Nat} (h : i < l.length) : (l[i] :: l.eraseIdx i).Perm l := by
 have e : l = l.take i ++ l[i] :: l.drop (i + 1) := by rw [← List.drop_eq_getElem_cons h, List.take_append_drop]
 rw [List.eraseIdx_eq_take_drop_succ]
 refine (List.perm_middle.symm.trans ?_)
 rw [← e]
theorem away_find {l aw : List Bk} (hp : (aw.map prB).Perm (l.map prB)) (hl : LvsOk l) {j : Nat} (hj : j < aw.length) :
    ∃ i, i < l.length ∧ (l.getD i .zero).a = (aw.getD j .zero).a ∧ (∀ k, k < i → (l.getD k .zero).a ≠ (aw.getD j .zero).a) ∧ ((aw.eraseIdx j).map prB).Perm ((l.eraseIdx i).map prB) := by
 have hm : prB aw[j] ∈ l.map prB := hp.mem_iff.1 (List.mem_map.2 ⟨_, List.getElem_mem hj, rfl⟩)
 obtain ⟨b, hb, e⟩ := List.mem_map.1 hm
 obtain ⟨i, hi, rfl⟩ := List.getElem_of_mem hb
 have g1 : l.getD i .zero = l[i] := by rw [List.getD_eq_getElem?_getD, List.getElem?_eq_getElem hi]; rfl
 have g2 : aw.getD j .zero = aw[j] := by rw [List.getD_eq_getElem?_getD, List.getElem?_eq_getElem hj]; rfl
 have ea : l[i].a = aw[j].a := congrArg Prod.fst e
 refine ⟨i, hi, by rw [g1, g2, ea], fun k hk => ?_, ?_⟩
 ·have g3 : l.getD k .zero = l[k]'(by omega) := by rw [List.getD_eq_getElem?_getD, List.getElem?_eq_getElem (by omega)]; rfl
  have := List.pairwise_iff_getElem.1 (lvs_iff.1 hl).2 k i (by omega) hi hk
  rw [g3, g2, ← ea]
  omega
 have p1 := (erase_perm hj).map prB
 have p2 := (erase_perm hi).map prB
 rw [List.map_cons] at p1 p2
 rw [e] at p2
 exact (p1.trans (hp.trans p2.symm)).cons_inv
theorem alloc_perm {aw l : List Bk} (h : (aw.map prB).Perm (l.map prB)) (p o t t' : Int) : ((aw ++ [(⟨p, o, t⟩ : Bk)]).map prB).Perm ((addB l ⟨p, o, t'⟩).map prB) := by
 rw [List.map_append]
 refine (List.perm_append_comm).trans ?_
 exact (h.cons (p, o)).trans ((addB_perm l ⟨p, o, t'⟩).map prB).symm
theorem sft_trans {H G F : Hp} (h : SameFT H G) (g : SameFT G F) : SameFT H F := fun i => ⟨(h i).1.trans (g i).1, (h i).2.trans (g i).2⟩
theorem app_own3 (w : World) (ty : TypeId) (B : Nat) (ao : Option Addr) (n cap : Nat) (l : List Bk) (b : Bk) (gb : Nat) (ho : w.ownsRow B 40 3 (.slice ao n cap) n (bvals l)) (hn : n ≤ 300) (hb : w.heap[gb]? = some (.cells #[.int .i64 b.a, .int .i64 b.o, .int .i64 b.t] 40 (0, 0))) (hB : B ≤ w.heap.size) :
    ∃ g' c' W, (Builtin.append_ #[32, 32] ty #[.slice ao n cap, .slice (some ⟨gb, 0, none⟩) 1 1]).run Tryz.prog w = .ok (.slice (some ⟨g', 0, none⟩) (n + 1) c') W ∧ W.ownsRow B 40 3 (.slice (some ⟨g', 0, none⟩) (n + 1) c') (n + 1) (bvals (l ++ [b])) ∧ ((ao = some ⟨g', 0, none⟩ ∧ But g' w W) ∨ (g' = w.heap.size ∧ Below w.heap.size w W)) := by
 obtain ⟨i1, hj, hy0, hy1, hy2⟩ := info_parts info_block
 have hnews : ∀ j v, (bvals [b])[j]? = some v → w.cell? ((⟨gb, 0, none⟩ : Addr).add j) = some v := by
  intro j v hjv
  rw [add_at, Nat.zero_add]
  simp only [World.cell?, hb]
  change ([Value.int .i64 b.a, .int .i64 b.o, .int .i64 b.t] : List Value)[j]? = some v at hjv
  simpa using hjv
 obtain ⟨g', c', W, hrun, ow, hcs⟩ := append_row (P := Tryz.prog) w B 32 ty 40 i1 _ 3 Tryz.underlying32 hj hy0 hy1 rfl ao n cap (bvals l) ho ⟨gb, 0, none⟩ 1 1 (bvals [b]) rfl hnews (bvals_oneCell _) (by omega) (by unfold maxLen; omega) (by rw [hy2]; omega) hB
 exact ⟨g', c', W, hrun, by rw [bvals_append]; exact ow, hcs⟩
theorem bs_int7 (a b c d e x y : Int) (w : World) : (Instr.buildSlice 30 7 #[(0, .int .i64 a), (1, .int .i64 b), (2, .int .i64 c), (3, .int .i64 d), (4, .int .i64 e), (5, .int .i64 x), (6, .int .i64 y)]).run Tryz.prog w = .ok (.slice (some ⟨w.heap.size, 0, none⟩) 7 7) (w.alloc (.cells #[.int .i64 a, .int .i64 b, .int .i64 c, .int .i64 d, .int .i64 e, .int .i64 x, .int .i64 y] 3)) := by
 simp [go_sem]
theorem bs_int5 (a b c d e : Int) (w : World) : (Instr.buildSlice 30 5 #[(0, .int .i64 a), (1, .int .i64 b), (2, .int .i64 c), (3, .int .i64 d), (4, .int .i64 e)]).run Tryz.prog w = .ok (.slice (some ⟨w.heap.size, 0, none⟩) 5 5) (w.alloc (.cells #[.int .i64 a, .int .i64 b, .int .i64 c, .int .i64 d, .int .i64 e] 3)) := by
 simp [go_sem]
theorem row7_at {w : World} {g : Nat} (h : w.heap[g]? = some (.cells #[.int .i64 0, .int .i64 0, .int .i64 0, .int .i64 1, .int .i64 2, .int .i64 3, .int .i64 4] 3 (0, 0))) {j : Nat} (hj : j < 7) : ∃ o : Int, ordOk o ∧ w.cell? ⟨g, 0 + j * 1, none⟩ = some (.int .i64 o) := by
 rcases (show j = 0 ∨ j = 1 ∨ j = 2 ∨ j = 3 ∨ j = 4 ∨ j = 5 ∨ j = 6 by omega) with rfl | rfl | rfl | rfl | rfl | rfl | rfl
 ·exact ⟨0, by unfold ordOk; omega, cell_of_row w g 0 _ _ _ h⟩
 ·exact ⟨0, by unfold ordOk; omega, cell_of_row w g 1 _ _ _ h⟩
 ·exact ⟨0, by unfold ordOk; omega, cell_of_row w g 2 _ _ _ h⟩
 ·exact ⟨1, by unfold ordOk; omega, cell_of_row w g 3 _ _ _ h⟩
 ·exact ⟨2, by unfold ordOk; omega, cell_of_row w g 4 _ _ _ h⟩
 ·exact ⟨3, by unfold ordOk; omega, cell_of_row w g 5 _ _ _ h⟩
 exact ⟨4, by unfold ordOk; omega, cell_of_row w g 6 _ _ _ h⟩
def flA (j : Nat) : Int := [0, 2, 4, 1, 8].getD j 0
theorem row5_at {w : World} {g : Nat} (h : w.heap[g]? = some (.cells #[.int .i64 0, .int .i64 2, .int .i64 4, .int .i64 1, .int .i64 8] 3 (0, 0))) {j : Nat} (hj : j < 5) : w.cell? ⟨g, 0 + j * 1, none⟩ = some (.int .i64 (flA j)) := by
 rcases (show j = 0 ∨ j = 1 ∨ j = 2 ∨ j = 3 ∨ j = 4 by omega) with rfl | rfl | rfl | rfl | rfl
 ·exact cell_of_row w g 0 _ _ _ h
 ·exact cell_of_row w g 1 _ _ _ h
 ·exact cell_of_row w g 2 _ _ _ h
 ·exact cell_of_row w g 3 _ _ _ h
 exact cell_of_row w g 4 _ _ _ h
theorem flA_ok {j : Nat} (hj : j < 5) : flagsOk (flA j) ∧ -9223372036854775808 ≤ flA j ∧ flA j ≤ 9223372036854775807 := by
 rcases (show j = 0 ∨ j = 1 ∨ j = 2 ∨ j = 3 ∨ j = 4 by omega) with rfl | rfl | rfl | rfl | rfl <;> decide
theorem raws_at {w : World} {ao : Option Addr} {n cap : Nat} {l : List Raw4} (h : IsRaws w ao n cap l) {i : Nat} (hi : i < n) :
    ∃ g o rk ra rb rc, ao = some ⟨g, o, none⟩ ∧ w.cell? ⟨g, o + i * 4, none⟩ = some (.int .i64 rk) ∧ w.cell? ⟨g, o + i * 4 + 1, none⟩ = some (.int .i64 ra) ∧ w.cell? ⟨g, o + i * 4 + 2, none⟩ = some (.int .i64 rb) ∧ w.cell? ⟨g, o + i * 4 + 3, none⟩ = some (.int .i64 rc) ∧
     (Lit.int .i64 rk).wf = true ∧ (Lit.int .i64 ra).wf = true ∧ (Lit.int .i64 rb).wf = true ∧ (Lit.int .i64 rc).wf = true ∧ rc = (l.getD i .zero).c := by
 obtain ⟨g, o, e, h1, h2, h3, h4⟩ := h.at_ i (by rw [h.len]; exact hi)
 have hw := h.wf i hi
 exact ⟨g, o, _, _, _, _, e, h1, h2, h3, h4, hw.k, hw.a, hw.b, hw.c, rfl⟩
structure Clo (fls : Int → Prop) (J : Hp → Prop) : Prop where
 alloc : ∀ (H G : Hp) (cpu o fl p : Int), HMay H → J H → fls fl → ordOk o → (0 ≤ cpu ∧ cpu ≤ H.cpus - 1) → find2H H cpu o fl = some (G, p) → J { G with live := addB G.live ⟨p, o, typeF fl⟩ }
 free : ∀ (H : Hp) (cpu : Int) (i : Nat), HMay H → J H → (0 ≤ cpu ∧ cpu ≤ H.cpus - 1) → i < H.live.length → J (releaseH { H with live := H.live.eraseIdx i } cpu (H.live.getD i .zero))
 drain : ∀ H : Hp, HMay H → J H → J (emptyH H)
def Rch (fls : Int → Prop) (H0 H : Hp) : Prop := ∀ J : Hp → Prop, Clo fls J → J H0 → J H
theorem Rch.refl (fls : Int → Prop) (H : Hp) : Rch fls H H := fun _ _ h => h
theorem Rch.alloc {fls : Int → Prop} {H0 H G : Hp} {cpu o fl p : Int} (h : Rch fls H0 H) (hM : HMay H) (hf : fls fl) (ho : ordOk o) (hc : 0 ≤ cpu ∧ cpu ≤ H.cpus - 1) (hd : find2H H cpu o fl = some (G, p)) : Rch fls H0 { G with live := addB G.live ⟨p, o, typeF fl⟩ } := fun J hJ h0 => hJ.alloc H G cpu o fl p hM (h J hJ h0) hf ho hc hd
theorem Rch.free {fls : Int → Prop} {H0 H : Hp} {cpu : Int} {i : Nat} (h : Rch fls H0 H) (hM : HMay H) (hc : 0 ≤ cpu ∧ cpu ≤ H.cpus - 1) (hi : i < H.live.length) : Rch fls H0 (releaseH { H with live := H.live.eraseIdx i } cpu (H.live.getD i .zero)) := fun J hJ h0 => hJ.free H cpu i hM (h J hJ h0) hc hi
theorem Rch.drain {fls : Int → Prop} {H0 H : Hp} (h : Rch fls H0 H) (hM : HMay H) : Rch fls H0 (emptyH H) := fun J hJ h0 => hJ.drain H hM (h J hJ h0)
def rawFl (l : List Raw4) (fl : Int) : Prop := ∃ i, i < l.length ∧ fl = flA (pickN (l.getD i .zero).c 5)
def AllocD (x : Hx) (cpu o fl : Int) (s : Nat) (W : World) (v0 v1 v2 v3 v4 : Value) (p er : Int) : Prop :=
 er = 6 ∨ (er = 0 ∧ ∃ (y2 : Hx) (G : Hp), find2H x.hp cpu o fl = some (G, p) ∧ v0 = .slice y2.zo y2.zn y2.zc ∧ v1 = .slice y2.mo y2.mn y2.mc ∧ v2 = .int .i64 y2.cpus ∧ v3 = .slice y2.lo y2.ln y2.lc ∧ v4 = .slice y2.vo y2.vn y2.vc ∧ y2.At W ∧ y2.hp = { G with live := addB G.live ⟨p, o, typeF fl⟩ } ∧ FreshH s y2)
theorem AllocD.below {x : Hx} {cpu o fl : Int} {s : Nat} {W W' : World} {v0 v1 v2 v3 v4 : Value} {p er : Int} (h : AllocD x cpu o fl s W v0 v1 v2 v3 v4 p er) (hb : Below W.heap.size W W') : AllocD x cpu o fl s W' v0 v1 v2 v3 v4 p er :=
 h.imp id fun ⟨e, y2, G, h1, h2, h3, h4, h5, h6, h7, h8⟩ => ⟨e, y2, G, h1, h2, h3, h4, h5, h6, h7.below hb, h8⟩
theorem AllocD.but {x : Hx} {cpu o fl : Int} {s b : Nat} {W W' : World} {v0 v1 v2 v3 v4 : Value} {p er : Int} (h : AllocD x cpu o fl s W v0 v1 v2 v3 v4 p er) (hb : But b W W') (hs : b < s) : AllocD x cpu o fl s W' v0 v1 v2 v3 v4 p er :=
 h.imp id fun ⟨e, y2, G, h1, h2, h3, h4, h5, h6, h7, h8, h9⟩ => ⟨e, y2, G, h1, h2, h3, h4, h5, h6, Off.but (h9 b hs) h7 hb, h8, h9⟩
theorem AllocD.less {x : Hx} {cpu o fl : Int} {s t : Nat} {W : World} {v0 v1 v2 v3 v4 : Value} {p er : Int} (h : AllocD x cpu o fl s W v0 v1 v2 v3 v4 p er) (hs : t ≤ s) : AllocD x cpu o fl t W v0 v1 v2 v3 v4 p er :=
 h.imp id fun ⟨e, y2, G, h1, h2, h3, h4, h5, h6, h7, h8, h9⟩ => ⟨e, y2, G, h1, h2, h3, h4, h5, h6, h7, h8, fun b hb => h9 b (by omega)⟩
theorem pAlloc_un (w : World) (x : Hx) (cpu o fl : Int) (hx : x.At w) (hM : HMay x.hp) (hT : TabAt w) (hc : 0 ≤ cpu ∧ cpu ≤ x.cpus - 1) (ho : ordOk o) (hf1 : -9223372036854775808 ≤ fl) (hf2 : fl ≤ 9223372036854775807) (hf : flagsOk fl) :
    Calls Tryz.prog 22 #[.agg #[.slice x.zo x.zn x.zc, .slice x.mo x.mn x.mc, .int .i64 x.cpus, .slice x.lo x.ln x.lc, .slice x.vo x.vn x.vc], .int .i64 cpu, .int .i64 o, .int .i64 fl] w fun e w' => (∃ v0 v1 v2 v3 v4 p er, e = .returned (.tuple #[.agg #[v0, v1, v2, v3, v4], .int .i64 p, .int .i64 er]) ∧ v0.oneCell' = true ∧ v1.oneCell' = true ∧ v2.oneCell' = true ∧ v3.oneCell' = true ∧ v4.oneCell' = true ∧ AllocD x cpu o fl w.heap.size w' v0 v1 v2 v3 v4 p er) ∧ Below w.heap.size w w' := by
 refine (pAlloc_fr w x cpu o fl hx hM hT hc ho hf1 hf2 hf).mono ?_
 rintro e w' ⟨⟨_, rfl⟩ | ⟨y2, G, p, h1, rfl, h2, h3, h4⟩, hb⟩
 ·exact ⟨⟨_, _, _, _, _, _, _, rfl, rfl, rfl, rfl, rfl, rfl, .inl rfl⟩, hb⟩
 exact ⟨⟨_, _, _, _, _, _, _, rfl, rfl, rfl, rfl, rfl, rfl, .inr ⟨rfl, y2, G, h1, rfl, rfl, rfl, rfl, rfl, h2, h3, h4⟩⟩, hb⟩
end Go.Proofs.YtjohdbiipeedkaaGreatDoor
