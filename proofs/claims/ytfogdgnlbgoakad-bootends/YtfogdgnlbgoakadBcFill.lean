/-
  OWN TEXT. Contracts of the code: mark, freePages.
-/
import Derived.Test.YtfogdgnlbgoakadBcMarks
import Derived.Test.YtfogdgnlbgoakadBPure
namespace Go.Proofs.Ytfogdgnlbgoakad
open Go Go.RowKit Go.Proofs.Ytfogdgnlbgoakad.Kit

/-- 256 times false. -/
theorem zero_marks (w : World) : (zeroValue 51).run Try.prog w = .ok (.agg (mk fun _ => false)) w := by kernel_rfl

/-- The world in the midst of a filling: the result's block r, the marks' block c. -/
structure FillInv (w : World) (h : Int → Bool) (r c : Nat) (W : World) : Prop where
  size : c < W.heap.size
  lo : w.heap.size ≤ r
  lt : r < c
  b : Below w.heap.size w W
  res : MarksAt W r 51 (fun _ => false)
  m : MarksAt W c 51 h

theorem FillInv.step {w : World} {h : Int → Bool} {r c : Nat} {W W' : World} (I : FillInv w h r c W) (hb : Below W.heap.size W W') : FillInv w h r c W' :=
  ⟨Nat.lt_of_lt_of_le I.size hb.size, I.lo, I.lt, I.b.trans (hb.mono (by have := I.size; have := I.lo; have := I.lt; omega)), I.res.below hb, I.m.below hb⟩

theorem FillInv.fill {w : World} {h g : Int → Bool} {r c : Nat} {W W' : World} (I : FillInv w h r c W) (hb : But c W W') (hm : MarksAt W' c 51 g) : FillInv w g r c W' :=
  ⟨Nat.lt_of_lt_of_le I.size hb.size, I.lo, I.lt, I.b.trans (hb.below (by have := I.lo; have := I.lt; omega) (by have := I.size; have := I.lo; have := I.lt; omega)), I.res.but hb (by have := I.lt; omega), hm⟩

theorem reg_nat {x y : Int} (h : regOk (x, y)) : ∃ f s : Nat, x = f ∧ y = s ∧ f + s ≤ 256 := by
  obtain ⟨h1, h2, h3, h4, h5⟩ := h
  dsimp only at h1 h2 h3 h4 h5
  exact ⟨x.toNat, y.toNat, by omega, by omega, by omega⟩

set_option maxHeartbeats 4000000 in
set_option maxRecDepth 4000 in
theorem bmark_any (w : World) (ao : Option Addr) (n cap : Nat) (l : List (Int × Int)) (hr : Regs w ao n l) (hM : MayP l) :
    Calls Try.prog 34 #[.slice ao n cap] w fun e w' => e = .returned (.agg (mk (inL l))) ∧ Below w.heap.size w w' := by
  have hz := zero_marks
  obtain ⟨Z, hZ⟩ : ∃ Z, mk (fun _ => false) = Z := ⟨_, rfl⟩
  rw [hZ] at hz
  go_enter Try.func34, Try.ntmps34
  go_wp2
  have I0 : FillInv w (markK l true (fun _ => false) 0) w.heap.size (w.heap.size + 1) ((w.alloc (.cells Z 51)).alloc (.cells Z 51)) := by
    refine ⟨by simp, Nat.le_refl _, by omega, ((Below.refl _ _).alloc (Nat.le_refl _) _).alloc (by simp) _, ?_, ?_⟩
    · show _ = some _
      rw [Below.heap_alloc _ _ _ (by simp), hZ]
      exact heap_alloc_new _ _
    · show _ = some (Obj.cells (mk (fun _ => false)) _ _)
      rw [hZ]
      have := heap_alloc_new (w.alloc (.cells Z 51)) (.cells Z 51)
      simpa using this
  clear hz hZ
  go_loopw [8] (fun i wr => ∃ k : Nat, k ≤ n ∧ i = .int .i64 k ∧ FillInv w (markK l true (fun _ => false) k) w.heap.size (w.heap.size + 1) wr) (fun i _ => n - (intOf i).toNat)
  case atStart => exact ⟨0, Nat.zero_le _, rfl, I0⟩
  case round =>
    obtain ⟨k, hk, rfl, I⟩ := hrel
    clear I0
    by_cases hlt : k < n
    · have hrr := hr.below I.b
      have hll := hr.len
      obtain ⟨b, o, x, y, rfl, c1, c2, hX⟩ := hrr.at_.at k (by omega)
      obtain ⟨f, s, rfl, rfl, hfs⟩ := reg_nat (by have := hM.ok k (by omega); rw [hX.out] at this; exact this)
      have hbx := below_box wr (.cells #[.int .i64 f, .int .i64 s] 35)
      have I1 := I.step hbx
      have hrch : hr.reach = hr.reach := rfl
      have hreach := hr.reach
      have HE : Hid (setH f s true (markK l true (fun _ => false) k) = markK l true (fun _ => false) (k + 1)) := by
        show _ = setH (l.getD k (0, 0)).1 (l.getD k (0, 0)).2 true (markK l true (fun _ => false) k)
        rw [hX.out]
      clear hrr I hrch
      go_wp2_with fail
      go_at_call 30
      refine (bset_any _ _ _ f s true I1.m hfs).mono ?_
      rintro e w1 ⟨rfl, hm1, hb1⟩
      rw [HE.out] at hm1
      have I2 := I1.fill hb1 hm1
      clear I1 hm1 hb1 c1 c2 hbx
      go_wp2
      go_roundw
      case rel => exact ⟨k + 1, by omega, by go_num, I2⟩
      case measure => simp [intOf]; omega
    · have hkn : k = l.length := by have := hr.len; omega
      have J : MarksAt wr (w.heap.size + 1) 51 (inL l) := by show _ = some _; rw [← markK_all, ← hkn]; exact I.m
      obtain ⟨N, hN⟩ : ∃ N, N = 256 := ⟨_, rfl⟩
      have zT : ∀ w, (sizeOf 51).run Try.prog w = .ok N w := by subst hN; exact fun _ => by kernel_rfl
      have aT : ∀ w, (isAgg 51).run Try.prog w = .ok true w := fun _ => by kernel_rfl
      have hcs : (mk (inL l)).size = N := by rw [mk_size, hN]
      have hone := mk_oneCell (inL l)
      have hr0 : wr.heap[w.heap.size]? = some (.cells (mk fun _ => false) 51 (0, 0)) := I.res
      have hzs : (mk fun _ => false).size = N := by rw [mk_size, hN]
      have hB := I.b
      unfold MarksAt at J
      obtain ⟨C, hC⟩ : ∃ C, mk (inL l) = C := ⟨_, rfl⟩
      rw [hC] at J hcs hone
      have HC : Hid (mk (inL l) = C) := hC
      obtain ⟨Z0, hZ0⟩ : ∃ Z0, (mk fun _ => false) = Z0 := ⟨_, rfl⟩
      rw [hZ0] at hr0 hzs
      clear hC hZ0 hkn I hN hM hr
      have hl : (loadCellsFrom ⟨w.heap.size + 1, 0, none⟩ 0 N #[]).run Try.prog wr = .ok C wr := load_row J hcs
      have hs1 : (storeCells ⟨w.heap.size, 0, none⟩ C.toList 0).run Try.prog wr = .ok () (wr.setRow w.heap.size C) := store_row hr0 (by rw [hcs, hzs]) hone
      have hrow : (wr.setRow w.heap.size C).heap[w.heap.size]? = some (.cells C 51 (0, 0)) := setRow_heap _ _ _ _ _ _ hr0
      have hl3 := load_row (P := Try.prog) hrow hcs
      have hBF := below_setRow hB (Nat.le_refl _) C
      clear hrow
      go_wp2
      refine bodyPost_ret (v := .agg C) ?_ rfl ⟨by rw [HC.out], hBF⟩
      simp [results, Try.results34, go_sem, zT, aT, hl3]

set_option maxHeartbeats 4000000 in
set_option maxRecDepth 4000 in
theorem bfree_any (w : World) (mo : Option Addr) (mn mc : Nat) (M : List (Int × Int)) (ro : Option Addr) (rn rc : Nat) (R : List (Int × Int)) (hm : Regs w mo mn M) (hr : Regs w ro rn R) (hM : MayP M) (hR : MayP R) :
    Calls Try.prog 22 #[.agg #[.slice mo mn mc, .slice ro rn rc]] w fun e w' => e = .returned (.agg (mk fun p => inL M p && !inL R p)) ∧ Below w.heap.size w w' := by
  have hz := zero_marks
  obtain ⟨Z, hZ⟩ : ∃ Z, mk (fun _ => false) = Z := ⟨_, rfl⟩
  rw [hZ] at hz
  go_enter Try.func22, Try.ntmps22
  go_wp2_with fail
  go_at_call 34
  have hb2 : Below w.heap.size w ((w.alloc (.cells #[.slice mo mn mc, .slice ro rn rc] 25)).alloc (.cells Z 51)) := ((Below.refl _ _).alloc (Nat.le_refl _) _).alloc (by simp) _
  have p1 : ((w.alloc (.cells #[.slice mo mn mc, .slice ro rn rc] 25)).alloc (.cells Z 51)).cell? ⟨w.heap.size, 1, none⟩ = some (.slice ro rn rc) := by go_simp
  have hres : MarksAt ((w.alloc (.cells #[.slice mo mn mc, .slice ro rn rc] 25)).alloc (.cells Z 51)) (w.heap.size + 1) 51 (fun _ => false) := by
    show _ = some _
    rw [hZ]
    have := heap_alloc_new (w.alloc (.cells #[.slice mo mn mc, .slice ro rn rc] 25)) (.cells Z 51)
    simpa using this
  refine (bmark_any _ mo mn mc M (hm.below hb2) hM).mono ?_
  rintro e w1 ⟨rfl, hb1⟩
  replace p1 := keep p1 hb1
  replace hres := hres.below hb1
  have hB1 := hb2.trans (hb1.mono hb2.size)
  have hs1 : w.heap.size + 2 ≤ w1.heap.size := by have := hb1.size; simp at this; omega
  clear hb1 hb2
  have hzs : Z.size = (mk (inL M)).size := by rw [← hZ, mk_size, mk_size]
  have hst : (storeCells ⟨w1.heap.size, 0, none⟩ (mk (inL M)).toList 0).run Try.prog (w1.alloc (.cells Z 51)) = .ok () ((w1.alloc (.cells Z 51)).setRow w1.heap.size (mk (inL M))) := store_row (heap_alloc_new _ _) hzs (mk_oneCell _)
  have hrow : MarksAt ((w1.alloc (.cells Z 51)).setRow w1.heap.size (mk (inL M))) w1.heap.size 51 (inL M) := setRow_heap _ _ _ _ _ _ (heap_alloc_new _ _)
  have hbs : Below w1.heap.size w1 ((w1.alloc (.cells Z 51)).setRow w1.heap.size (mk (inL M))) := below_setRow (below_box _ _) (Nat.le_refl _) _
  have I0 : FillInv w (inL M) (w.heap.size + 1) w1.heap.size ((w1.alloc (.cells Z 51)).setRow w1.heap.size (mk (inL M))) := ⟨by have := hbs.size; exact hrow.lt, by omega, by omega, hB1.trans (hbs.mono (by omega)), hres.below hbs, hrow⟩
  replace p1 := keep p1 hbs
  have hrr := hr.below I0.b
  obtain ⟨C, hC⟩ : ∃ C, mk (inL M) = C := ⟨_, rfl⟩
  rw [hC] at hst I0 p1 hrr ⊢
  obtain ⟨W2, hW2⟩ : ∃ W2, (w1.alloc (.cells Z 51)).setRow w1.heap.size C = W2 := ⟨_, rfl⟩
  rw [hW2] at hst I0 p1 hrr
  obtain ⟨N, hN⟩ : ∃ N, N = 256 := ⟨_, rfl⟩
  have zT : ∀ w, (sizeOf 51).run Try.prog w = .ok N w := by subst hN; exact fun _ => by kernel_rfl
  have aT : ∀ w, (isAgg 51).run Try.prog w = .ok true w := fun _ => by kernel_rfl
  have hcN : C.size = N := by rw [← hC, mk_size, hN]
  have hlt0 := I0.size
  obtain ⟨HNN⟩ : Nonempty (Hid (N = 256)) := ⟨hN⟩
  have hR0 := hr.at_
  have hRl := hr.len
  clear hN hrow hbs hres hzs hB1 hm hr
  go_wp2
  clear hst hcN hz hC hW2 p1
  go_loopw [12] (fun i wr => ∃ k : Nat, k ≤ rn ∧ i = .int .i64 k ∧ FillInv w (markK R false (inL M) k) (w.heap.size + 1) w1.heap.size wr ∧ Regs wr ro rn R) (fun i _ => rn - (intOf i).toNat)
  case atStart => exact ⟨0, Nat.zero_le _, rfl, I0, hrr⟩
  case round =>
    obtain ⟨k, hk, rfl, I, hr⟩ := hrel
    clear I0 hrr
    by_cases hlt : k < rn
    · have hll := hr.len
      have hold : ∀ a, ro = some a → a.block < w.heap.size := by
        obtain ⟨b', o', e', c', _⟩ := hR0 k (by omega)
        intro a ha
        rw [e'] at ha
        cases ha
        have := World.block_lt_of_cell? w _ c'
        exact this
      obtain ⟨b, o, x, y, rfl, c1, c2, hX⟩ := hr.at_.at k (by omega)
      obtain ⟨f, s, rfl, rfl, hfs⟩ := reg_nat (by have := hR.ok k (by omega); rw [hX.out] at this; exact this)
      have hbx := below_box wr (.cells #[.int .i64 f, .int .i64 s] 35)
      have I1 := I.step hbx
      have hreach := hr.reach
      have HE : Hid (setH f s false (markK R false (inL M) k) = markK R false (inL M) (k + 1)) := by
        show _ = setH (R.getD k (0, 0)).1 (R.getD k (0, 0)).2 false (markK R false (inL M) k)
        rw [hX.out]
      clear I
      go_wp2_with fail
      go_at_call 30
      refine (bset_any _ _ _ f s false I1.m hfs).mono ?_
      rintro e w3 ⟨rfl, hm1, hb1⟩
      rw [HE.out] at hm1
      have I2 := I1.fill hb1 hm1
      have hr2 := hb1.regs (hr.below hbx) (fun a ha => by have := hold a ha; omega)
      clear I1 hm1 hb1 c1 c2 hbx hr
      go_wp2
      go_roundw
      case rel => exact ⟨k + 1, by omega, by go_num, I2, hr2⟩
      case measure => simp [intOf]; omega
    · have hkn : k = R.length := by have := hr.len; omega
      have J : MarksAt wr w1.heap.size 51 (fun p => inL M p && !inL R p) := by show _ = some _; rw [← markK_free, ← hkn]; exact I.m
      have hN := HNN.out
      have hcs : (mk (fun p => inL M p && !inL R p)).size = N := by rw [mk_size, hN]
      have hone := mk_oneCell (fun p => inL M p && !inL R p)
      have hr0 : wr.heap[w.heap.size + 1]? = some (.cells (mk fun _ => false) 51 (0, 0)) := I.res
      have hzs : (mk fun _ => false).size = N := by rw [mk_size, hN]
      have hB := I.b
      unfold MarksAt at J
      obtain ⟨C, hC⟩ : ∃ C, mk (fun p => inL M p && !inL R p) = C := ⟨_, rfl⟩
      rw [hC] at J hcs hone
      have HC : Hid (mk (fun p => inL M p && !inL R p) = C) := hC
      rw [hZ] at hr0 hzs
      clear hC hZ hkn I hN hM hR hr HNN hR0
      have hl : (loadCellsFrom ⟨w1.heap.size, 0, none⟩ 0 N #[]).run Try.prog wr = .ok C wr := load_row J hcs
      have hs2 : (storeCells ⟨w.heap.size + 1, 0, none⟩ C.toList 0).run Try.prog wr = .ok () (wr.setRow (w.heap.size + 1) C) := store_row hr0 (by rw [hcs, hzs]) hone
      have hrow : (wr.setRow (w.heap.size + 1) C).heap[w.heap.size + 1]? = some (.cells C 51 (0, 0)) := setRow_heap _ _ _ _ _ _ hr0
      have hl3 := load_row (P := Try.prog) hrow hcs
      have hBF := below_setRow hB (Nat.le_succ w.heap.size) C
      clear hrow
      go_wp2
      refine bodyPost_ret (v := .agg C) ?_ rfl ⟨by rw [HC.out], hBF⟩
      simp [results, Try.results22, go_sem, zT, aT, hl3]

end Go.Proofs.Ytfogdgnlbgoakad
