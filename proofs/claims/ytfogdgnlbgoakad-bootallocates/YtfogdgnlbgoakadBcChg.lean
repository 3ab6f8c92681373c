/-
  OWN TEXT. Contracts of the code: boot.change, whatever closure it is handed.
-/
import Derived.Test.YtfogdgnlbgoakadBcRegs
import Derived.Test.YtfogdgnlbgoakadBcCheck
import Derived.Test.YtfogdgnlbgoakadBcTwo
namespace Go.Proofs.Ytfogdgnlbgoakad
open Go Go.RowKit Go.Proofs.Ytfogdgnlbgoakad.Kit

/-- Which of the two the closure changes. -/
def selB (sel : Bool) (x y : Nat) : Nat := if sel = true then y else x
def selH (sel : Bool) (g h : Int → Bool) : Int → Bool := if sel = true then g else h

/-- What the closure does, whatever new memory there is. -/
def DoesTo (F : Nat) (cap : Value) (sel v : Bool) (f s : Nat) (w : World) : Prop :=
  ∀ (W : World) (x y : Nat) (g h : Int → Bool), Below w.heap.size w W → MarksAt W x 51 g → MarksAt W y 51 h → x ≠ y → w.heap.size ≤ x → w.heap.size ≤ y →
    Calls Try.prog F (#[.pointer (some ⟨x, 0, none⟩), .pointer (some ⟨y, 0, none⟩)] ++ #[cap]) W fun e W' => e = .returned (.tuple #[]) ∧ MarksAt W' x 51 (selH sel g (setH f s v g)) ∧ MarksAt W' y 51 (selH sel (setH f s v h) h) ∧ But (selB sel x y) W W'

def chkR (l : Array Bool) (i : Nat) : Bool :=
  let g := fun j => l.getD j false
  match i with
  | 0 => !g 0 | 1 => g 0 && !g 1 | 2 => g 1 && !g 2 | 3 => !g 3 | 4 => g 3 && !g 4 | 5 => g 4 && g 2 && !g 5 | 6 => !g 6 | 7 => !g 7
  | 8 => g 2 && g 6 && g 7 && !g 8 | 9 => g 5 && g 7 && g 8 && !g 9 | _ => false

theorem chkR_false (l0 l1 l2 l3 l4 l5 l6 l7 l8 l9 : Bool) (i : Nat) (h : chkR #[l0, l1, l2, l3, l4, l5, l6, l7, l8, l9] i = true) : #[l0, l1, l2, l3, l4, l5, l6, l7, l8, l9][i]? = some false := by
  unfold chkR at h
  match i, h with
  | 0, h => simpa using h
  | 1, h => simp at h; simp [h]
  | 2, h => simp at h; simp [h]
  | 3, h => simpa using h
  | 4, h => simp at h; simp [h]
  | 5, h => simp at h; simp [h]
  | 6, h => simpa using h
  | 7, h => simpa using h
  | 8, h => simp at h; simp [h]
  | 9, h => simp at h; simp [h]

set_option maxHeartbeats 4000000 in
set_option maxRecDepth 4000 in
theorem chg_ok (w : World) (mo : Option Addr) (mn mc : Nat) (M : List (Int × Int)) (ro : Option Addr) (rn rc : Nat) (R : List (Int × Int)) (f s : Nat) (rb F : Nat) (sel v : Bool) (hm : Regs w mo mn M) (hr : Regs w ro rn R) (q0 : w.cell? ⟨rb, 0, none⟩ = some (.int .i64 f)) (q1 : w.cell? ⟨rb, 1, none⟩ = some (.int .i64 s)) (hM : MayP M ∧ MayP R) (h : regOk ((f : Int), (s : Int)))
    (hcall : ∀ args W, (callFunc F args).run Try.prog W = .ok (.enter F args) W) (hF : DoesTo F (.pointer (some ⟨rb, 0, none⟩)) sel v f s w) :
    Calls Try.prog 28 #[.agg #[.slice mo mn mc, .slice ro rn rc], .agg #[.int .i64 f, .int .i64 s], .func (.func F) #[] #[.pointer (some ⟨rb, 0, none⟩)]] w fun e w' => ((40 < (drawnAll (selH sel (inL M) (setH f s v (inL M)))).length ∨ 40 < (drawnAll (selH sel (setH f s v (inL R)) (inL R))).length) ∧ e = .returned (.tuple #[.agg #[.slice none 0 0, .slice none 0 0], .int .i64 9]) ∨
      (drawnAll (selH sel (inL M) (setH f s v (inL M)))).length ≤ 40 ∧ (drawnAll (selH sel (setH f s v (inL R)) (inL R))).length ≤ 40 ∧ ∃ m1 n1 c1 r1 n2 c2, e = .returned (.tuple #[.agg #[.slice m1 n1 c1, .slice r1 n2 c2], .int .i64 0]) ∧ Regs w' m1 n1 (drawnAll (selH sel (inL M) (setH f s v (inL M)))) ∧ Regs w' r1 n2 (drawnAll (selH sel (setH f s v (inL R)) (inL R))) ∧ Fresh (w.heap.size + 3) m1 ∧ Fresh (w.heap.size + 3) r1) ∧ Below w.heap.size w w' := by
  have I0 := cgInv_first w mo mn mc M ro rn rc R f s rb hm hr q0 q1
  clear hm hr q0 q1
  go_enter Try.func28, Try.ntmps28
  go_wp2_with fail
  go_at_call 10
  refine (cCheck_ok _ mo mn mc M ro rn rc R I0.m I0.r hM).mono ?_
  rintro e w1 ⟨rfl, hb1⟩
  have I1 := I0.step hb1
  have r0 := I1.r0
  have r1 := I1.r1
  clear I0 hb1
  go_wp2_with fail
  go_at_call 35
  refine (checkRegion_ok _ f s h).mono ?_
  rintro e w2 ⟨rfl, hb2⟩
  have I2 := I1.step hb2
  have hz := zero_marks
  clear I1 hb2 r0 r1
  go_wp2_with fail
  refine wp_region_any (by kernel_rfl) ?_
  refine wpAny_ten chkR (fun l a W => ∃ l0 l1 l2 l3 l4 l5 l6 l7 l8 l9 t10 t11 t25 t26 t27 t28 t29 t30, l = #[l0, l1, l2, l3, l4, l5, l6, l7, l8, l9] ∧
      a = { tmps := #[.agg #[.slice mo mn mc, .slice ro rn rc], .agg #[.int .i64 f, .int .i64 s], .func (.func F) #[] #[.pointer (some ⟨rb, 0, none⟩)], .pointer (some ⟨w.heap.size, 0, none⟩), .pointer (some ⟨w.heap.size + 1, 0, none⟩), undef, .pointer (some ⟨w.heap.size + 1 + 1, 0, none⟩), .int .i64 0, .int .i64 0, .int .i64 0,
        t10, t11, undef, .agg #[.slice mo mn mc, .slice ro rn rc], .int .i64 0, .int .i64 0, .bool false, undef, undef, .agg #[.int .i64 f, .int .i64 s], .int .i64 0, .int .i64 0, .bool false, undef, undef, t25, t26, t27, t28, t29, t30, undef, undef, undef, undef, undef, undef, undef, undef, undef, undef, undef, undef, undef, undef, undef, undef, undef], defers := [] } ∧
      RgI w2 (mk fun _ => false) (mk (inL M)) (mk (inL R)) (.pointer (some ⟨w.heap.size, 0, none⟩)) (.pointer (some ⟨w.heap.size, 1, none⟩)) (.slice mo mn mc) (.slice ro rn rc) l0 l1 l2 l3 l4 l5 l6 l7 l8 l9 t10 t11 t25 t26 t27 t28 t29 t30 W) ?dep ?fin ?full chkR_false ?step ?done 10 _ _ _ rfl (by decide) ?first
  case dep => decide +kernel
  case fin => decide +kernel
  case full => kernel_rfl
  case first => exact ⟨false, false, false, false, false, false, false, false, false, false, undef, undef, undef, undef, undef, undef, undef, undef, rfl, rfl, (Below.refl _ _).drew, fun g => (by cases g), fun g => (by cases g), fun g => (by cases g), fun g => (by cases g), fun g => (by cases g), fun g => (by cases g), fun g => (by cases g), fun g => (by cases g), fun g => (by cases g), fun g => (by cases g), fun g => (by cases g)⟩
  case step =>
    rintro l0 l1 l2 l3 l4 l5 l6 l7 l8 l9 a W ⟨m0, m1, m2, m3, m4, m5, m6, m7, m8, m9, t10, t11, t25, t26, t27, t28, t29, t30, hl, rfl, J⟩ i hck
    cases hl
    have c0 := keep I2.c0 J.b
    have c1 := keep I2.c1 J.b
    match i, hck with
    | 0, hck =>
      refine wpOp_step rfl (fun K hK => ?_)
      clear c0 c1 I2 hz
      go_simp
      exact hK _ _ ⟨_, _, _, _, _, _, _, _, _, _, _, _, _, _, _, _, _, _, rfl, rfl, ⟨J.b, fun _ => rfl, J.h1, J.h2, J.h3, J.h4, J.h5, J.h6, J.h7, J.ne, J.k8, J.k9⟩⟩
    | 1, hck =>
      simp [chkR] at hck
      obtain rfl := J.h0 hck.1
      refine wpOp_step rfl (fun K hK => ?_)
      clear I2 hz
      go_simp
      exact hK _ _ ⟨_, _, _, _, _, _, _, _, _, _, _, _, _, _, _, _, _, _, rfl, rfl, ⟨J.b, J.h0, fun _ => rfl, J.h2, J.h3, J.h4, J.h5, J.h6, J.h7, J.ne, J.k8, J.k9⟩⟩
    | 2, hck =>
      simp [chkR] at hck
      obtain rfl := J.h1 hck.1
      refine wpOp_step rfl (fun K hK => ?_)
      have HC := bmark_any W mo mn mc M (I2.m.below J.b) hM.1
      clear I2 hz c0 c1
      go_simp
      refine HC.mono ?_
      rintro e w3 ⟨rfl, hb3⟩
      replace J := J.step hb3
      exact hK _ _ ⟨_, _, _, _, _, _, _, _, _, _, _, _, _, _, _, _, _, _, rfl, rfl, ⟨J.b, J.h0, J.h1, fun _ => rfl, J.h3, J.h4, J.h5, J.h6, J.h7, J.ne, J.k8, J.k9⟩⟩
    | 3, hck =>
      refine wpOp_step rfl (fun K hK => ?_)
      clear c0 c1 I2 hz
      go_simp
      exact hK _ _ ⟨_, _, _, _, _, _, _, _, _, _, _, _, _, _, _, _, _, _, rfl, rfl, ⟨J.b, J.h0, J.h1, J.h2, fun _ => rfl, J.h4, J.h5, J.h6, J.h7, J.ne, J.k8, J.k9⟩⟩
    | 4, hck =>
      simp [chkR] at hck
      obtain rfl := J.h3 hck.1
      refine wpOp_step rfl (fun K hK => ?_)
      clear I2 hz
      go_simp
      exact hK _ _ ⟨_, _, _, _, _, _, _, _, _, _, _, _, _, _, _, _, _, _, rfl, rfl, ⟨J.b, J.h0, J.h1, J.h2, J.h3, fun _ => rfl, J.h5, J.h6, J.h7, J.ne, J.k8, J.k9⟩⟩
    | 5, hck =>
      simp [chkR] at hck
      obtain rfl := J.h4 hck.1.1
      refine wpOp_step rfl (fun K hK => ?_)
      have HC := bmark_any W ro rn rc R (I2.r.below J.b) hM.2
      clear I2 hz c0 c1
      go_simp
      refine HC.mono ?_
      rintro e w3 ⟨rfl, hb3⟩
      replace J := J.step hb3
      exact hK _ _ ⟨_, _, _, _, _, _, _, _, _, _, _, _, _, _, _, _, _, _, rfl, rfl, ⟨J.b, J.h0, J.h1, J.h2, J.h3, J.h4, fun _ => rfl, J.h6, J.h7, J.ne, J.k8, J.k9⟩⟩
    | 6, hck =>
      simp [chkR] at hck
      subst hck
      refine wpOp_step rfl (fun K hK => ?_)
      clear I2 c0 c1
      go_simp
      exact hK _ _ ⟨_, _, _, _, _, _, _, _, _, _, _, _, _, _, _, _, _, _, rfl, rfl, J.new6⟩
    | 7, hck =>
      simp [chkR] at hck
      subst hck
      refine wpOp_step rfl (fun K hK => ?_)
      clear I2 c0 c1
      go_simp
      exact hK _ _ ⟨_, _, _, _, _, _, _, _, _, _, _, _, _, _, _, _, _, _, rfl, rfl, J.new7⟩
    | 8, hck =>
      simp [chkR] at hck
      obtain ⟨⟨⟨g2, g6⟩, g7⟩, g8⟩ := hck
      obtain rfl := J.h2 g2
      subst g6 g8
      obtain ⟨x, rfl, hx, hrow⟩ := J.h6 rfl
      have hrow8 : W.heap[x]? = some (.cells (mk fun _ => false) 51 (0, 0)) := hrow
      have hst := store_row (P := Try.prog) hrow8 (by rw [mk_size, mk_size]) (mk_oneCell (inL M))
      obtain ⟨N, hN⟩ : ∃ N, N = 256 := ⟨_, rfl⟩
      have zT : ∀ w, (sizeOf 51).run Try.prog w = .ok N w := by subst hN; exact fun _ => by kernel_rfl
      have aT : ∀ w, (isAgg 51).run Try.prog w = .ok true w := fun _ => by kernel_rfl
      have hcs : (mk (inL M)).size = N := by rw [mk_size, hN]
      refine wpOp_step rfl (fun K hK => ?_)
      clear I2 hz c0 c1 hN hrow hrow8
      go_simp
      exact hK _ _ ⟨_, _, _, _, _, _, _, _, _, _, _, _, _, _, _, _, _, _, rfl, rfl, J.put8⟩
    | 9, hck =>
      simp [chkR] at hck
      obtain ⟨⟨⟨g5, g7⟩, g8⟩, g9⟩ := hck
      obtain rfl := J.h5 g5
      subst g7 g9
      obtain ⟨y, rfl, hy, hrow⟩ := J.h7 rfl
      have hrow9 : W.heap[y]? = some (.cells (mk fun _ => false) 51 (0, 0)) := hrow
      have hst := store_row (P := Try.prog) hrow9 (by rw [mk_size, mk_size]) (mk_oneCell (inL R))
      obtain ⟨N, hN⟩ : ∃ N, N = 256 := ⟨_, rfl⟩
      have zT : ∀ w, (sizeOf 51).run Try.prog w = .ok N w := by subst hN; exact fun _ => by kernel_rfl
      have aT : ∀ w, (isAgg 51).run Try.prog w = .ok true w := fun _ => by kernel_rfl
      have hcs : (mk (inL R)).size = N := by rw [mk_size, hN]
      refine wpOp_step rfl (fun K hK => ?_)
      clear I2 hz c0 c1 hN hrow hrow9
      go_simp
      exact hK _ _ ⟨_, _, _, _, _, _, _, _, _, _, _, _, _, _, _, _, _, _, rfl, rfl, J.put9⟩
    | n + 10, hck => simp [chkR] at hck
  case done =>
    rintro a W ⟨m0, m1, m2, m3, m4, m5, m6, m7, m8, m9, t10, t11, t25, t26, t27, t28, t29, t30, hl, rfl, J⟩
    cases hl
    obtain rfl := J.h0 rfl
    obtain rfl := J.h1 rfl
    obtain rfl := J.h2 rfl
    obtain rfl := J.h3 rfl
    obtain rfl := J.h4 rfl
    obtain rfl := J.h5 rfl
    obtain ⟨x, rfl, hx, mx⟩ := J.h6 rfl
    obtain ⟨y, rfl, hy, my⟩ := J.h7 rfl
    have hxy : x ≠ y := fun g => J.ne rfl rfl (by rw [g])
    have hB := J.b
    rw [if_pos rfl] at mx my
    clear J hz
    go_wp2_with fail
    have HF := hF W x y (inL M) (inL R) (I2.b.trans (hB.mono (by have := I2.size; omega))) mx my hxy (by have := I2.size; omega) (by have := I2.size; omega)
    refine HF.mono ?_
    rintro e w3 ⟨rfl, nx, ny, hb3⟩
    have hR3 : Res2 w3 (w.heap.size + 1 + 1) := by
      have hne : w.heap.size + 1 + 1 ≠ selB sel x y := by unfold selB; have := I2.size; split <;> omega
      obtain ⟨⟨u0, d0⟩, ⟨u1, d1⟩, z0, z1⟩ := I2.res.below hB
      have hbk := hb3.block (w.heap.size + 1 + 1) (World.block_lt_of_cell? _ _ d0) hne
      exact ⟨⟨u0, (World.cell?_of_block (a := ⟨_, 0, none⟩) hbk).trans d0⟩, ⟨u1, (World.cell?_of_block (a := ⟨_, 1, none⟩) hbk).trans d1⟩, (World.frozen?_of_block (a := ⟨_, 0, none⟩) hbk).trans z0, (World.frozen?_of_block (a := ⟨_, 1, none⟩) hbk).trans z1⟩
    have hB3 : Below w.heap.size w w3 := (I2.b.trans (hB.mono (by have := I2.size; omega))).trans (hb3.below (by unfold selB; have := I2.size; split <;> omega) (by have := I2.size; have := hB.size; omega))
    have hs3 : w.heap.size + 3 ≤ w3.heap.size := by have := I2.size; have := hB.size; have := hb3.size; omega
    clear I2 mx my hB HF hb3 hF hcall
    obtain ⟨D1, hD1⟩ : ∃ D1, drawnAll (selH sel (inL M) (setH f s v (inL M))) = D1 := ⟨_, rfl⟩
    obtain ⟨D2, hD2⟩ : ∃ D2, drawnAll (selH sel (setH f s v (inL R)) (inL R)) = D2 := ⟨_, rfl⟩
    have l1 : D1.length ≤ 256 := by rw [← hD1, ← drawn_all _ 256 rfl]; exact drawn_len _ 256
    have l2 : D2.length ≤ 256 := by rw [← hD2, ← drawn_all _ 256 rfl]; exact drawn_len _ 256
    have HD1 : Hid _ := hD1
    have HD2 : Hid _ := hD2
    have HX := bregions_any w3 x _ nx
    rw [hD1] at HX
    clear hD1 hD2 nx
    go_wp2_with fail
    go_at_call 23
    refine HX.mono ?_
    rintro e w4 ⟨bo1, e1, rfl, own1, hb4⟩
    have HY := bregions_any w4 y _ (ny.below hb4)
    rw [HD2.out] at HY
    have hB4 := hB3.trans (hb4.mono hB3.size)
    have hR4 := hR3.below hb4
    have g1 : Regs w4 bo1 D1.length D1 := ⟨rfl, by omega, regs_of_owns own1⟩
    have f1 : Fresh (w.heap.size + 3) bo1 := fun a ha => Nat.le_trans hs3 (owns_fresh own1 a ha)
    have hs4 := Nat.le_trans hs3 hb4.size
    clear HX own1 hB3 hR3 hb4 ny hs3
    go_wp2_with fail
    go_at_call 23
    refine HY.mono ?_
    rintro e w5 ⟨bo2, e2, rfl, own2, hb5⟩
    have hB5 := hB4.trans (hb5.mono hB4.size)
    have hR5 := hR4.below hb5
    have g2 : Regs w5 bo2 D2.length D2 := ⟨rfl, by omega, regs_of_owns own2⟩
    have f2 : Fresh (w.heap.size + 3) bo2 := fun a ha => Nat.le_trans hs4 (owns_fresh own2 a ha)
    replace g1 := g1.below hb5
    have hs5 := Nat.le_trans hs4 hb5.size
    clear HY own2 hB4 hR4 hb5 hs4
    obtain ⟨n1, hn1⟩ : ∃ n1, D1.length = n1 := ⟨_, rfl⟩
    obtain ⟨n2, hn2⟩ : ∃ n2, D2.length = n2 := ⟨_, rfl⟩
    rw [hn1] at l1 g1 ⊢
    rw [hn2] at l2 g2 ⊢
    have N1 : Hid _ := hn1
    have N2 : Hid _ := hn2
    clear hn1 hn2
    have hbx := below_box w5 (.cells #[.slice bo1 n1 e1, .slice bo2 n2 e2] 25)
    have y0 : (w5.alloc (.cells #[.slice bo1 n1 e1, .slice bo2 n2 e2] 25)).cell? ⟨w5.heap.size, 0, none⟩ = some (.slice bo1 n1 e1) := by go_simp
    have y1 : (w5.alloc (.cells #[.slice bo1 n1 e1, .slice bo2 n2 e2] 25)).cell? ⟨w5.heap.size, 1, none⟩ = some (.slice bo2 n2 e2) := by go_simp
    replace g1 := g1.below hbx
    replace g2 := g2.below hbx
    have hB6 := hB5.trans (hbx.mono hB5.size)
    obtain ⟨⟨x0, d0⟩, ⟨x1, d1⟩, z0, z1⟩ := hR5.below hbx
    clear hR5 hB5 hbx
    by_cases h1 : (40 : Int) < n1
    · have HE : Hid (40 < D1.length ∨ 40 < D2.length) := Or.inl (by have := N1.out; omega)
      clear g1 g2 f1 f2
      go_wp2
      obtain ⟨k0, k1⟩ := res2 d0 d1 (.slice none 0 0) (.slice none 0 0)
      refine bodyPost_ret (v := .tuple #[.agg #[.slice none 0 0, .slice none 0 0], .int .i64 9]) (by simp [results, Try.results28, go_sem, k0, k1]) rfl ⟨Or.inl ⟨?_, rfl⟩, below2 hB6 (by omega) _ _⟩
      rw [HD1.out, HD2.out]; exact HE.out
    · by_cases h2 : (40 : Int) < n2
      · have HE : Hid (40 < D1.length ∨ 40 < D2.length) := Or.inr (by have := N2.out; omega)
        clear g1 g2 f1 f2
        go_wp2
        obtain ⟨k0, k1⟩ := res2 d0 d1 (.slice none 0 0) (.slice none 0 0)
        refine bodyPost_ret (v := .tuple #[.agg #[.slice none 0 0, .slice none 0 0], .int .i64 9]) (by simp [results, Try.results28, go_sem, k0, k1]) rfl ⟨Or.inl ⟨?_, rfl⟩, below2 hB6 (by omega) _ _⟩
        rw [HD1.out, HD2.out]; exact HE.out
      · have HE : Hid (D1.length ≤ 40 ∧ D2.length ≤ 40) := ⟨by have := N1.out; omega, by have := N2.out; omega⟩
        go_wp2
        obtain ⟨k0, k1⟩ := res2 d0 d1 (.slice bo1 n1 e1) (.slice bo2 n2 e2)
        refine bodyPost_ret (v := .tuple #[.agg #[.slice bo1 n1 e1, .slice bo2 n2 e2], .int .i64 0]) (by simp [results, Try.results28, go_sem, k0, k1]) rfl ⟨Or.inr ⟨?_, ?_, bo1, n1, e1, bo2, n2, e2, rfl, ?_, ?_, f1, f2⟩, below2 hB6 (by omega) _ _⟩
        · rw [HD1.out]; exact HE.out.1
        · rw [HD2.out]; exact HE.out.2
        · rw [HD1.out]; exact regs_set2 g1 (fun a ha => by have := f1 a ha; omega) _ _
        · rw [HD2.out]; exact regs_set2 g2 (fun a ha => by have := f2 a ha; omega) _ _

end Go.Proofs.Ytfogdgnlbgoakad
